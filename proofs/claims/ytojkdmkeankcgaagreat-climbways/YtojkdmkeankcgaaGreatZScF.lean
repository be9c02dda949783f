/-
  What the call of shortcutsFrom does: the shortcuts from one place over another one.
-/
import Derived.Test.YtojkdmkeankcgaaGreatZAro
import Derived.Test.YtojkdmkeankcgaaGreatZRs
namespace Go.Proofs.YtojkdmkeankcgaaGreat
open Go.RowKit Go.Sort

/-- The shortcut from s over o to t, if there is one, as the search tells it. -/
def scG (U : Mx) (D : Nat → Option Int) (x0 : Int) (s o t : Nat) : Option Lnk :=
  match wtM U o t with
  | none => none
  | some y => if t = s then none else match D t with
    | none => some (s, t, (x0 + y, (o : Int)))
    | some d => if x0 + y < d then some (s, t, (x0 + y, (o : Int))) else none
/-- What it is. -/
def IsSc (n : Nat) (U : Mx) (x0 : Int) (s o t : Nat) (g : Option Lnk) : Prop :=
  (∃ y, wtM U o t = some y ∧ t ≠ s ∧ (∀ d, Way n (offW U o) s t d → x0 + y < d) ∧ g = some (s, t, (x0 + y, (o : Int)))) ∨
  ((¬ ∃ y, wtM U o t = some y ∧ t ≠ s ∧ ∀ d, Way n (offW U o) s t d → x0 + y < d) ∧ g = none)
theorem scG_is {n s o t : Nat} {U : Mx} {D : Nat → Option Int} {x0 m : Int} (h : Near n (offW U o) s m D) (hm : ∀ t y, wtM U o t = some y → x0 + y ≤ m) : IsSc n U x0 s o t (scG U D x0 s o t) := by
  unfold scG
  cases e : wtM U o t with
  | none => exact .inr ⟨fun ⟨y, h1, _⟩ => (by rw [e] at h1; cases h1), rfl⟩
  | some y =>
    have hy := hm t y e
    by_cases hts : t = s
    · simp only [hts, if_true]
      exact .inr ⟨fun ⟨_, _, h2, _⟩ => h2 rfl, rfl⟩
    · simp only [hts, if_false]
      cases eD : D t with
      | none =>
        refine .inl ⟨y, e, hts, fun d hw => ?_, rfl⟩
        by_cases hd : d ≤ m
        · obtain ⟨d', h1, _⟩ := h.least t d hw hd
          rw [eD] at h1
          cases h1
        · omega
      | some d0 =>
        obtain ⟨_, _, h1, h2⟩ := h.way t d0 eD
        by_cases hl : x0 + y < d0
        · simp only [hl, if_true]
          refine .inl ⟨y, e, hts, fun d hw => ?_, rfl⟩
          by_cases hd : d ≤ m
          · obtain ⟨d', h3, h4⟩ := h.least t d hw hd
            rw [eD] at h3
            cases h3
            omega
          · omega
        · simp only [hl, if_false]
          refine .inr ⟨fun ⟨y', h3, _, h4⟩ => ?_, rfl⟩
          rw [e] at h3
          cases h3
          exact hl (h4 d0 h2)
theorem field2 (a b c d : Int) (w : World) : (Instr.field 46 (.agg #[.int .i64 a, .int .i64 b, .int .i64 c, .int .i64 d]) 2).run Tryz.prog w = .ok (.int .i64 c) w := by kernel_rfl
/-- The weights over o of the places that have come already. -/
def wsF (U : Mx) (x0 : Int) (o : Nat) (todo : Nat → Bool) : Nat → Option Int := fun t => if todo t then none else (wtM U o t).map (x0 + ·)
/-- In the loop over the links that lead on from o. -/
structure WsIn (n : Nat) (w : World) (B : Nat) (b : LfB) (U : Mx) (x0 : Int) (o mw r : Nat) (todo : Nat → Bool) (k : Nat) (mst : Int) (wr : World) : Prop where
  below : Below B w wr
  mp : MapAt n wr mw fun t => (wsF U x0 o todo t).map intV
  rg : RangeAt n wr (b.mu o) r (upF U o) todo k
  m0 : 0 ≤ mst ∧ mst ≤ 8589934592000000
  mx : ∀ t y, todo t = false → wtM U o t = some y → x0 + y ≤ mst
  rB : B ≤ r
  mB : B ≤ mw
  uB : b.mu o < B
  wB : w.heap.size = B
theorem ws_next {U : Mx} {x0 y : Int} {o q : Nat} {todo : Nat → Bool} (hy : wtM U o q = some y) : (fun t => (wsF U x0 o (fun p => todo p && !(p == q)) t).map intV) = upd (fun t => (wsF U x0 o todo t).map intV) q (some (intV (x0 + y))) := by
  funext t
  by_cases e : t = q
  · subst e
    rw [upd_same]
    simp [wsF, hy]
  · rw [upd_other _ _ e]
    simp [wsF, e]
theorem sc_at {n i o : Nat} {U : Mx} (hi : i < (risL n (wtM U o)).length) : (risL n (wtM U o))[i]! < n ∧ ∃ y, wtM U o (risL n (wtM U o))[i]! = some y := by
  have := mem_risL.1 (show (risL n (wtM U o))[i]! ∈ risL n (wtM U o) by rw [getElem!_pos (risL n (wtM U o)) i hi]; exact List.getElem_mem hi)
  exact ⟨this.1, Option.isSome_iff_exists.1 this.2⟩
theorem sc_take {n i o : Nat} {U : Mx} (G : Nat → Option Lnk) (hi : i < (risL n (wtM U o)).length) : ((risL n (wtM U o)).take (i + 1)).filterMap G = ((risL n (wtM U o)).take i).filterMap G ++ (G (risL n (wtM U o))[i]!).toList := by
  rw [List.take_add_one, List.filterMap_append, List.getElem?_eq_getElem hi, getElem!_pos (risL n (wtM U o)) i hi]
  congr 1
theorem sc_len (n : Nat) {o : Nat} (U : Mx) (G : Nat → Option Lnk) (i : Nat) : (((risL n (wtM U o)).take i).filterMap G).length ≤ i :=
  Nat.le_trans (List.length_filterMap_le _ _) (by rw [List.length_take]; omega)
theorem sc_all (n : Nat) (U : Mx) (D : Nat → Option Int) (x0 : Int) (s o : Nat) : (risL n (wtM U o)).filterMap (scG U D x0 s o) = (List.range n).filterMap (scG U D x0 s o) := by
  unfold risL
  rw [List.filterMap_filter]
  congr 1
  funext q
  cases h : wtM U o q
  · simp [scG, h]
  · simp
/-- In the loop over the weights. -/
structure ScIn (n : Nat) (w : World) (B ml mw : Nat) (U : Mx) (D : Nat → Option Int) (x0 : Int) (s o : Nat) (todo : Nat → Bool) (ga : Option Addr) (gc i : Nat) (v : Value) (wr : World) : Prop where
  ml : MapAt n wr ml fun q => (D q).map intV
  mw : MapAt n wr mw fun t => (wsF U x0 o todo t).map intV
  keys : IRow wr B (.slice ga (risL n (wtM U o)).length gc) (nI (risL n (wtM U o)))
  row : LRow wr B v (((risL n (wtM U o)).take i).filterMap (scG U D x0 s o))
  below : Below B w wr
set_option maxRecDepth 100000 in
set_option maxHeartbeats 6400000 in
theorem shortcutsFrom_any {n : Nat} {w : World} {b : LfB} {rv : Nat → Int} {U V : Mx} (h : LfA n w b rv U V) (hn : n ≤ 32) (hU : EOk n (wtM U) 4294967296000000) {s o : Nat} (hs : s < n) (ho : o < n) {x0 m0 : Int} (hV : V s o = some (x0, m0)) (hx0 : 0 ≤ x0 ∧ x0 ≤ 4294967296000000) :
    Calls Tryz.prog 87 #[.pointer (some ⟨b.l, 0, none⟩), .int .i64 s, .int .i64 o] w fun e w' => ∃ v G, e = .returned v ∧ (∀ t, t < n → IsSc n U x0 s o t (G t)) ∧ LRow w' w.heap.size v ((List.range n).filterMap G) ∧ Below w.heap.size w w' := by
  have HL := hide h
  have HX := hide hU
  have HX0 := hide hx0
  have HV := hide hV
  have HSN := hide (And.intro hs ho)
  obtain ⟨B, hB⟩ : ∃ B, w.heap.size = B := ⟨_, rfl⟩
  have HBB := hide hB
  have hmm : (Instr.makeMap 112 none).run Tryz.prog w = .ok (.map (some B)) (w.alloc (.map #[] 0)) := by rw [← hB]; rfl
  have hm0 := MapAt.made n w
  rw [hB] at hm0
  have hb1 : Below B w (w.alloc (.map #[] 0)) := (Below.refl _ _).alloc (by omega) _
  have L1 := h.later (hB ▸ hb1)
  obtain ⟨w1, run1, hr1, hg1, hs1⟩ := range_start (L1.mu o ho) Tryz.underlying93
  have hr : (w.alloc (.map #[] 0)).heap.size = B + 1 := by rw [← hB]; simp
  rw [hr] at run1 hr1
  have hb2 : Below (w.alloc (.map #[] 0)).heap.size (w.alloc (.map #[] 0)) w1 := ⟨hg1.os, hg1.tape, hg1.output, hg1.size, fun k hk => hg1.block k hk (by simp)⟩
  have HS : Hid (WsIn n w B b U x0 o B (B + 1) (fun q => (upF U o q).isSome) (num (upF U o) n) 0 w1) := by
    refine ⟨hb1.trans (hb2.mono (by omega)), ?_, hr1, ⟨Int.le_refl _, by omega⟩, fun t y ht hy => ?_, by omega, Nat.le_refl _, by rw [← hB]; exact (h.mu o ho).lt, hB⟩
    · have e : (fun t => (wsF U x0 o (fun q => (upF U o q).isSome) t).map intV) = fun _ => none := by
        funext t
        cases e : U o t <;> simp [wsF, upF, wtM, e]
      rw [e]
      exact hm0.of_block (hb2.block B (by omega))
    · obtain ⟨mm, e⟩ := wtM_some.1 hy
      unfold upF at ht
      rw [e] at ht
      cases ht
  have c1 := L1.c1
  have cu := L1.cu ho
  have i1 : (o : Int) < (n : Int) := by omega
  rw [hB]
  clear h hU hm0 hb1 hb2 L1 hr1 hg1 hs1 hr hB hV hx0 hs ho
  obtain ⟨K0, hK0⟩ : ∃ K0, num (upF U o) n = K0 := ⟨_, rfl⟩
  rw [hK0] at HS
  clear hK0
  go_enter Tryz.func87, Tryz.ntmps87
  go_wp2
  clear run1 c1 cu hmm
  go_loopg [7] K0 (fun k vm wr => ∃ todo mst, vm = .int .i64 mst ∧ Hid (WsIn n w B b U x0 o B (B + 1) todo k mst wr))
  case atStart => exact ⟨_, 0, rfl, HS.out⟩
  case round =>
    clear HS
    obtain ⟨todo, mst, rfl, HR⟩ := hrel
    rcases range_next HR.out.rg 0 with ⟨rfl, hall, hrun⟩ | ⟨q, v, w6, k6, hq, ht, hF, hrun, hrg, hk6, hg6, hs6, hent⟩
    · have HMX : Hid (∀ t y, wtM U o t = some y → x0 + y ≤ mst) := fun t y hy => HR.out.mx t y (hall t (HX.out o t y hy).2.1) hy
      have HWS : Hid (∀ t, t < n → wsF U x0 o todo t = (wtM U o t).map (x0 + ·)) := fun t ht => by unfold wsF; rw [hall t ht]; rfl
      have HEQ : Hid (risL n (fun t => (wsF U x0 o todo t).map intV) = risL n (wtM U o)) := risL_same fun t ht => by rw [HWS.out t ht]; cases wtM U o t <;> rfl
      have HW0 := hide HR.out.mp
      have HBW := hide HR.out.below
      have L2 := HL.out.later (by rw [HBB.out]; exact HR.out.below)
      have HAR := hide (around_any L2 hn HX.out HSN.out.1 HSN.out.2 HR.out.m0)
      have hB2 : B ≤ wr.heap.size := by rw [← HBB.out]; exact HR.out.below.size
      obtain ⟨i0, hi0, hy0, hy1, hy2⟩ := info_parts info59
      have HI := hide (And.intro hi0 (And.intro hy0 (And.intro hy1 hy2)))
      have hlen : (risL n (wtM U o)).length ≤ n := by rw [risL_len]; exact num_le _ n
      clear hall L2 HR hi0 hy0 hy1 hy2
      go_wp2_with (first
        | (go_at_call 103; refine HAR.out.mono ?_; rintro e w2 ⟨ml, D, rfl, h1, h2, h3⟩; have HNR := hide h2; have HM2 := hide h1; have HB3 : Hid (Below B w w2 ∧ MapAt n w2 B (fun t => (wsF U x0 o todo t).map intV)) := ⟨HBW.out.trans (h3.mono hB2), HW0.out.of_block (h3.block _ HW0.out.lt)⟩; clear h1 h2 h3)
        | (go_at_call 104; refine (rising_ints HB3.out.2 hn).mono ?_; rintro e w3 ⟨v, rfl, h1, h2⟩; rw [HEQ.out] at h1; obtain ⟨ga, gc, rfl⟩ := h1.shape; rw [nI_len] at h1 ⊢; have H1 : Hid (ScIn n w B ml B U D x0 s o todo ga gc 0 (.slice none 0 0) w3) := ⟨HM2.out.of_block (h2.block _ HM2.out.lt), HB3.out.2.of_block (h2.block _ HB3.out.2.lt), h1.mono (by rw [← HBB.out]; exact HB3.out.1.size), lrow_nil _ _, HB3.out.1.trans (h2.mono (by rw [← HBB.out]; exact HB3.out.1.size))⟩; clear h1 h2))
      have HSC : Hid (∀ t, t < n → IsSc n U x0 s o t (scG U D x0 s o t)) := fun t _ => scG_is HNR.out HMX.out
      clear HAR HNR HM2 HB3 HW0 HBW HMX HEQ
      go_loopw [12, 59] (fun vl vi wr => ∃ (i : Nat) (va : Option Addr) (vc : Nat), vl = .slice va (((risL n (wtM U o)).take i).filterMap (scG U D x0 s o)).length vc ∧ vi = .int .i64 i ∧ i ≤ (risL n (wtM U o)).length ∧ Hid (ScIn n w B ml B U D x0 s o todo ga gc i (.slice va (((risL n (wtM U o)).take i).filterMap (scG U D x0 s o)).length vc) wr)) (fun _ vi _ => (risL n (wtM U o)).length - (intOf vi).toNat)
      case atStart => exact ⟨0, none, 0, rfl, rfl, Nat.zero_le _, H1.out⟩
      case round =>
        clear H1
        obtain ⟨i, va, vc, rfl, rfl, hi, HR⟩ := hrel
        by_cases hil : i < (risL n (wtM U o)).length
        · obtain ⟨ht, y, hy⟩ := sc_at hil
          obtain ⟨g1, c1, hv, _, _, _, _⟩ := HR.out.keys.form (by rw [nI_len]; omega)
          have hkc := HR.out.keys
          injection hv with e1 e2 e3
          subst e1 e3
          have x1 := hkc.cell i (by rw [nI_len]; exact hil)
          rw [nI_get _ _ hil] at x1
          have HTK := hide (sc_take (scG U D x0 s o) hil)
          have HLL := hide (sc_len n (o := o) U (scG U D x0 s o) i)
          obtain ⟨t, ht'⟩ : ∃ t, (risL n (wtM U o))[i]! = t := ⟨_, rfl⟩
          rw [ht'] at ht hy x1 HTK
          have x2 := (MapAt.look HR.out.mw Tryz.underlying112 (Qu.zero3 wr) ht (by omega)).1
          rw [HWS.out t ht, hy] at x2
          simp only [Option.map_some, Option.getD_some] at x2
          have x3 := (MapAt.look HR.out.ml Tryz.underlying112 (Qu.zero3 wr) ht (by omega)).2
          unfold intV at x2 x3
          obtain ⟨N, hN⟩ : ∃ N, (risL n (wtM U o)).length = N := ⟨_, rfl⟩
          rw [hN] at hil hlen
          have i1 : (i : Int) < (N : Int) := by omega
          generalize hL1 : ((risL n (wtM U o)).take i).filterMap (scG U D x0 s o) = L1 at HR HTK HLL ⊢
          have HL1 := hide hL1
          have hBr : B ≤ wr.heap.size := by rw [← HBB.out]; exact HR.out.below.size
          have hL32 : L1.length ≤ 32 := by have := HLL.out; omega
          have HSKIP : Hid (scG U D x0 s o t = none → ScIn n w B ml B U D x0 s o todo (some ⟨g1, 0, none⟩) gc (i + 1) (.slice va L1.length vc) wr ∧ ((risL n (wtM U o)).take (i + 1)).filterMap (scG U D x0 s o) = L1) := fun e => by
            have e3 : ((risL n (wtM U o)).take (i + 1)).filterMap (scG U D x0 s o) = L1 := by rw [HTK.out, e]; simp
            exact ⟨⟨HR.out.ml, HR.out.mw, HR.out.keys, by rw [e3]; exact HL1.out ▸ HR.out.row, HR.out.below⟩, e3⟩
          have HOW : Hid ((wr.alloc (.cells #[.int .i64 s, .int .i64 t, .int .i64 (x0 + y), .int .i64 o] 46)).ownsRow B 46 4 (.slice va L1.length vc) L1.length (flatK L1)) := World.ownsRow.alloc (show LRow wr B (.slice va L1.length vc) L1 from HL1.out ▸ HR.out.row) _
          have HNW : Hid (∀ j u, [Value.int .i64 s, .int .i64 t, .int .i64 (x0 + y), .int .i64 o][j]? = some u → (wr.alloc (.cells #[.int .i64 s, .int .i64 t, .int .i64 (x0 + y), .int .i64 o] 46)).cell? ((⟨wr.heap.size, 0, none⟩ : Addr).add j) = some u) := World.news_of_block (cs := #[.int .i64 s, .int .i64 t, .int .i64 (x0 + y), .int .i64 o]) (t := 46) (fr := (0, 0)) (heap_alloc_new _ _)
          have HEND : Hid (scG U D x0 s o t = some (s, t, (x0 + y, (o : Int))) → ∀ gg cap w3, w3.ownsRow B 46 4 (.slice (some ⟨gg, 0, none⟩) (L1.length + 1) cap) (L1.length + 1) (flatK L1 ++ [.int .i64 s, .int .i64 t, .int .i64 (x0 + y), .int .i64 o]) → (wr.alloc (.cells #[.int .i64 s, .int .i64 t, .int .i64 (x0 + y), .int .i64 o] 46)).grownBy w3 (Value.slice va L1.length vc).ownBlock → ScIn n w B ml B U D x0 s o todo (some ⟨g1, 0, none⟩) gc (i + 1) (.slice (some ⟨gg, 0, none⟩) (L1.length + 1) cap) w3 ∧ (((risL n (wtM U o)).take (i + 1)).filterMap (scG U D x0 s o)).length = L1.length + 1) := fun eG gg cap w3 ho hgr => by
            have hR := HR.out
            have hrl : LRow wr B (.slice va L1.length vc) L1 := HL1.out ▸ hR.row
            have e : ((risL n (wtM U o)).take (i + 1)).filterMap (scG U D x0 s o) = L1 ++ [(s, t, (x0 + y, (o : Int)))] := by rw [HTK.out, eG]; rfl
            have hmk : ∀ {mb : Nat} {F : Nat → Option Value}, MapAt n wr mb F → MapAt n w3 mb F := fun hM => hM.of_block (by rw [hgr.block _ (by simp; have := hM.lt; omega) (fun e => lrow_ne_map hM hrl e.symm rfl), Below.heap_alloc _ _ _ hM.lt])
            refine ⟨⟨hmk hR.ml, hmk hR.mw, ?_, ?_, ?_⟩, by rw [e]; simp⟩
            · refine own_of_block hR.keys fun j hj => ?_
              have hjl := (hR.keys.lt j hj).2
              rw [hgr.block j (by simp; omega) (fun e => lrow_ne_irow hR.keys hrl e.symm hj rfl), Below.heap_alloc _ _ _ hjl]
            · unfold LRow
              rw [e, flatK_app, show (L1 ++ [(s, t, (x0 + y, (o : Int)))]).length = L1.length + 1 by simp]
              exact ho
            · exact (hR.below.alloc hBr _).grown hgr (by simp; omega) fun k hk => (hrl.lt k hk).1
          rw [hN]
          clear hkc hL1 hN ht' HR HL1 HTK
          have HGE : Hid (wtM U o t = some y) := hy
          clear hy
          by_cases hts : t = s
          · have z1 : ((t : Int) != (s : Int)) = false := by subst hts; simp
            have H3 := hide (HSKIP.out (by unfold scG; rw [HGE.out]; simp [hts]))
            replace hts := hide hts
            clear HOW HNW HEND HSKIP
            go_wp2
            go_roundw
            case rel => exact ⟨i + 1, va, vc, by rw [H3.out.2], by go_num, by omega, by rw [H3.out.2]; exact H3.out.1⟩
            case measure => simp [intOf]; omega
          · have z1 : ((t : Int) != (s : Int)) = true := by simp; omega
            have HAPP : Hid (scG U D x0 s o t = some (s, t, (x0 + y, (o : Int))) → ∀ gg cap w3, w3.ownsRow B 46 4 (.slice (some ⟨gg, 0, none⟩) (L1.length + 1) cap) (L1.length + 1) (flatK L1 ++ [.int .i64 s, .int .i64 t, .int .i64 (x0 + y), .int .i64 o]) → (wr.alloc (.cells #[.int .i64 s, .int .i64 t, .int .i64 (x0 + y), .int .i64 o] 46)).grownBy w3 (Value.slice va L1.length vc).ownBlock → ScIn n w B ml B U D x0 s o todo (some ⟨g1, 0, none⟩) gc (i + 1) (.slice (some ⟨gg, 0, none⟩) (L1.length + 1) cap) w3 ∧ (((risL n (wtM U o)).take (i + 1)).filterMap (scG U D x0 s o)).length = L1.length + 1) := HEND.out
            cases hD : D t with
            | none =>
              simp only [hD, Option.map_none, Option.getD_none, Option.isSome_none] at x3
              have HG : Hid (scG U D x0 s o t = some (s, t, (x0 + y, (o : Int)))) := by show _ = _; unfold scG; rw [HGE.out, hD]; simp [hts]
              clear hD HEND HSKIP
              go_wp2_with (at_builtin; refine wpList_append_lies _ rfl (.tmp 83) (.tmp 91) 43 rfl B 46 i0 (.agg #[.int .i64 0, .int .i64 0, .int .i64 0, .int .i64 0]) 4 32 Tryz.underlying43 HI.out.1 HI.out.2.1 HI.out.2.2.1 HI.out.2.2.2 rfl (by decide) (.slice va L1.length vc) L1.length (flatK L1) rfl HOW.out ⟨wr.heap.size, 0, none⟩ 1 1 [.int .i64 s, .int .i64 t, .int .i64 (x0 + y), .int .i64 o] rfl rfl HNW.out (by simp [Value.oneCell']) (by decide) (by unfold maxLen; omega) (by omega) (by simp; omega) (wr.heap.size + 1) (by simp) ?_)
              intro gg cap w4 hown1 hgrow hat hlt3
              have H3 := hide (HAPP.out HG.out gg cap w4 hown1 hgrow)
              clear hown1 hgrow hat HOW HNW HAPP
              go_wp2
              go_roundw
              case rel => exact ⟨i + 1, _, cap, by rw [H3.out.2], by go_num, by omega, by rw [H3.out.2]; exact H3.out.1⟩
              case measure => simp [intOf]; omega
            | some d =>
              simp only [hD, Option.map_some, Option.getD_some, Option.isSome_some] at x3
              by_cases hl : x0 + y < d
              · have z2 : decide (x0 + y < d) = true := decide_eq_true hl
                have HG : Hid (scG U D x0 s o t = some (s, t, (x0 + y, (o : Int)))) := by show _ = _; unfold scG; rw [HGE.out, hD]; simp [hts, hl]
                clear hD HEND HSKIP
                go_wp2_with (at_builtin; refine wpList_append_lies _ rfl (.tmp 83) (.tmp 91) 43 rfl B 46 i0 (.agg #[.int .i64 0, .int .i64 0, .int .i64 0, .int .i64 0]) 4 32 Tryz.underlying43 HI.out.1 HI.out.2.1 HI.out.2.2.1 HI.out.2.2.2 rfl (by decide) (.slice va L1.length vc) L1.length (flatK L1) rfl HOW.out ⟨wr.heap.size, 0, none⟩ 1 1 [.int .i64 s, .int .i64 t, .int .i64 (x0 + y), .int .i64 o] rfl rfl HNW.out (by simp [Value.oneCell']) (by decide) (by unfold maxLen; omega) (by omega) (by simp; omega) (wr.heap.size + 1) (by simp) ?_)
                intro gg cap w4 hown1 hgrow hat hlt3
                have H3 := hide (HAPP.out HG.out gg cap w4 hown1 hgrow)
                clear hown1 hgrow hat HOW HNW HAPP
                go_wp2
                go_roundw
                case rel => exact ⟨i + 1, _, cap, by rw [H3.out.2], by go_num, by omega, by rw [H3.out.2]; exact H3.out.1⟩
                case measure => simp [intOf]; omega
              · have z2 : decide (x0 + y < d) = false := decide_eq_false hl
                have H3 := hide (HSKIP.out (by unfold scG; rw [HGE.out, hD]; simp [hts, hl]))
                clear hD HEND HSKIP HAPP HOW HNW
                go_wp2
                go_roundw
                case rel => exact ⟨i + 1, va, vc, by rw [H3.out.2], by go_num, by omega, by rw [H3.out.2]; exact H3.out.1⟩
                case measure => simp [intOf]; omega
        · have e : i = (risL n (wtM U o)).length := by omega
          have HE : Hid (((risL n (wtM U o)).take i).filterMap (scG U D x0 s o) = (List.range n).filterMap (scG U D x0 s o)) := by show _ = _; rw [e, List.take_of_length_le (Nat.le_refl _)]; exact sc_all n U D x0 s o
          obtain ⟨N, hN⟩ : ∃ N, (risL n (wtM U o)).length = N := ⟨_, rfl⟩
          rw [hN] at hil ⊢
          have i1 : ¬ (i : Int) < (N : Int) := by omega
          have HF : Hid (LRow wr B (.slice va (((risL n (wtM U o)).take i).filterMap (scG U D x0 s o)).length vc) ((List.range n).filterMap (scG U D x0 s o)) ∧ Below B w wr) := ⟨by rw [← HE.out]; exact HR.out.row, HR.out.below⟩
          replace e := hide e
          clear hN HR HE hlen
          generalize (((risL n (wtM U o)).take i).filterMap (scG U D x0 s o)).length = m1 at HF ⊢
          go_wp2
          go_ret
          exact ⟨_, rfl, scG U D x0 s o, HSC.out, HF.out.1, HF.out.2⟩
    · obtain ⟨y, mm, hUq, rfl⟩ := link_of hF
      have hyU : wtM U o q = some y := wtM_some.2 ⟨mm, hUq⟩
      have hyb := HX.out o q y hyU
      have hiter := HR.out.rg.isIter
      have hm6 := HR.out.mp.of_block (hg6.block B HR.out.mp.lt (fun e => by cases e))
      have hb6 : Below B w w6 := HR.out.below.trans ⟨hg6.os, hg6.tape, hg6.output, hg6.size, fun j hj => hg6.block j (Nat.lt_of_lt_of_le hj (by rw [← HBB.out]; exact HR.out.below.size)) (fun e => by cases e; omega)⟩
      have hB6 : B ≤ w6.heap.size := by rw [← HBB.out]; exact hb6.size
      have hnew := heap_alloc_new w6 (.cells #[.int .i64 o, .int .i64 q, .int .i64 y, .int .i64 mm] 46)
      have hf7 : Below w6.heap.size w6 (w6.alloc (.cells #[.int .i64 o, .int .i64 q, .int .i64 y, .int .i64 mm] 46)) := (Below.refl _ _).alloc (Nat.le_refl _) _
      have hb7 := hb6.trans (hf7.mono hB6)
      have L7 := HL.out.later (by rw [HBB.out]; exact hb7)
      have hm7 := hm6.of_block (hf7.block B hm6.lt)
      have hrg7 := hrg.of_blocks (hf7.block _ hrg.map.lt) (hf7.block _ hrg.lt)
      have e2 := cell_of_row _ w6.heap.size 2 _ _ _ hnew
      simp only [List.getElem?_toArray, List.getElem?_cons_succ, List.getElem?_cons_zero] at e2
      have c2 := L7.c2
      have cd := L7.cd HSN.out.2
      obtain ⟨e6, he6⟩ : ∃ e6, w6.heap.size = e6 := ⟨_, rfl⟩
      have HE6 := hide he6
      rw [he6] at e2
      have hlt6 : e6 < (w6.alloc (.cells #[.int .i64 o, .int .i64 q, .int .i64 y, .int .i64 mm] 46)).heap.size := by rw [← he6]; simp
      clear hs6 he6 hnew hf7 hb6 hm6 hrg hg6
      go_wp2
      try rw [HE6.out]
      generalize hW7 : w6.alloc (.cells #[.int .i64 o, .int .i64 q, .int .i64 y, .int .i64 mm] 46) = W7 at hb7 L7 hm7 hrg7 e2 c2 cd hlt6 ⊢
      have hlk : (Instr.lookup 93 (.map (some (b.md o))) (.int .i64 s) false).run Tryz.prog W7.drew = .ok (.agg #[.int .i64 s, .int .i64 o, .int .i64 x0, .int .i64 m0]) W7.drew := by
        have := (MapAt.look (w := W7.drew) (L7.md o HSN.out.2) Tryz.underlying93 (zero59 _) HSN.out.1 (by omega)).1
        simp only [dnF, HV.out, Option.map_some, Option.getD_some] at this
        exact this
      obtain ⟨W8, run8, m8, t8⟩ := MapAt.store (w := W7.drew) (t := 112) (e := 3) hm7 Tryz.underlying112 hq (by omega) (intV (x0 + y))
      rw [← ws_next hyU] at m8
      have hrg8 := RangeAt.of_blocks (w' := W8) hrg7 (t8.grown.block _ hrg7.map.lt (fun e => by cases e; have := HR.out.uB; omega)) (t8.grown.block _ hrg7.lt (fun e => by cases e))
      have hb8 : Below B w W8 := hb7.trans ⟨t8.grown.os, t8.grown.tape, t8.grown.output, t8.grown.size, fun j hj => t8.grown.block j (Nat.lt_of_lt_of_le hj (by rw [← HBB.out]; exact hb7.size)) (fun e => by cases e; omega)⟩
      have hlk8 := (MapAt.look m8 Tryz.underlying112 (Qu.zero3 _) hq (by omega)).1
      simp only [wsF, hyU, beq_self_eq_true, Bool.not_true, Bool.and_false, Bool.false_eq_true, if_false, Option.map_some, Option.getD_some] at hlk8
      unfold intV at run8 hlk8
      have hX0 := HX0.out
      have HPL := hide (fun W => lplus_any x0 y (by omega) (by omega) W)
      have HE8 : Hid (∀ z, mst ≤ z → x0 + y ≤ z → 0 ≤ z ∧ z ≤ 8589934592000000 → WsIn n w B b U x0 o B (B + 1) (fun p => todo p && !(p == q)) k6 z W8) := fun z h1 h2 h3 => ⟨hb8, m8, hrg8, h3, fun t y' ht hy' => by
        by_cases e : t = q
        · subst e; rw [hyU] at hy'; cases hy'; exact h2
        · exact Int.le_trans (HR.out.mx t y' (by simpa [e] using ht) hy') h1, by omega, Nat.le_refl _, HR.out.uB, HBB.out⟩
      have hms := HR.out.m0
      have i2 : (o : Int) < (n : Int) := by have := HSN.out; omega
      clear hW7 hb7 L7 hm7 hrg7 m8 t8 hrg8 hb8 hiter hUq hyU HR hrun hent
      have hfd := field2 s o x0 m0
      go_region_with (first | (go_at_call 102; refine (HPL.out _).mono ?_; rintro e w9 ⟨rfl, hw⟩; rw [hw]; clear hw))
      all_goals
        go_wp2
        go_roundg k6
        case measure => omega
        case rel => exact ⟨_, _, rfl, HE8.out _ (Int.le_max_left _ _) (Int.le_max_right _ _) ⟨by have := Int.le_max_left mst (x0 + y); omega, Int.max_le.2 ⟨hms.2, by omega⟩⟩⟩
end Go.Proofs.YtojkdmkeankcgaaGreat
