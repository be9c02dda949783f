/-
  What the call of the document's Tasks does.
-/
import Derived.Test.YtgjpkpmikbpcnaaTsk
import Derived.Test.YtgjpkpmikbpcnaaPickP
namespace Go.Proofs.Ytgjpkpmikbpcnaa
open Go.RowKit

/-- A task more behind a row of tasks, nil or not. -/
theorem app_tsk {wr : World} {base k vc : Nat} {va : Option Addr} {L : List Tsk} {t : Tsk} {ops : Array Oper} {rest : List Oper} {o : Oper} {a : Act} {Q : Exit → Act → World → Prop} (s x : Operand)
    (hgd : o.guard = none) (ho : o.op = .call { callee := .builtin .append, args := #[s, x], argTypes := #[49, 49] })
    (hs : a.eval s = .slice va k vc) (hx : a.eval x = .slice (some ⟨wr.heap.size, 0, none⟩) 1 1) (hrow : TRow wr base (.slice va k vc) L) (hk : L.length = k) (hk2 : k ≤ 100) (hb : base ≤ wr.heap.size)
    (h : ∀ g' cap' w', TRow w' base (.slice (some ⟨g', 0, none⟩) (k + 1) cap') (L ++ [t]) → Below base wr w' → wpList Try.prog ops Q rest (a.put o.dst (.slice (some ⟨g', 0, none⟩) (k + 1) cap')) w') : wpList Try.prog ops Q (o :: rest) a (wr.alloc (.cells #[.bool t.1, .int .i64 t.2] 31)) := by
  obtain ⟨i0, hi0, hy0, hy1, hy2⟩ := info_parts info37
  have fA : Below wr.heap.size wr (wr.alloc (.cells #[.bool t.1, .int .i64 t.2] 31)) := (Below.refl _ _).alloc (Nat.le_refl _) _
  have hown := hrow.later (Nat.le_refl _) fA
  unfold TRow at hown
  rw [hk] at hown
  refine wpList_append_own _ hgd s x 49 ho base 31 i0 _ 2 16 Try.underlying49 hi0 hy0 hy1 hy2 rfl (by decide) _ k (flatT L) hs hown ⟨wr.heap.size, 0, none⟩ 1 1 (encT t) hx rfl (encT_news wr t) ?_ (by unfold maxLen; omega) (by omega) (by simp; omega) ?_
  · intro u hu
    simp [encT] at hu
    rcases hu with rfl | rfl <;> rfl
  · intro v' w' h1 h2 h3
    have e : flatT L ++ encT t = flatT (L ++ [t]) := by simp [flatT]
    rw [e] at h1
    have hrow : TRow w' base v' (L ++ [t]) := by unfold TRow; rw [List.length_append, hk]; exact h1
    have f : Below base wr w' := (fA.mono hb).grown h2 (by simp; omega) fun q hq => (hown.lt q hq).1
    rcases h1.2 with ⟨_, e2⟩ | ⟨g', cap', cur, rfl, _⟩
    · omega
    · exact h g' cap' w' hrow f
/-- All tasks being gathered. -/
structure GatS (w wr : World) (p : Prb) (x : PrbS) (v : Value) (L : List Tsk) : Prop where
  row : TRow wr (w.heap.size + 1) v L
  low : Below w.heap.size w wr
  size : w.heap.size + 1 ≤ wr.heap.size
  box : BoxP wr w.heap.size p x
theorem GatS.more {w wr w' : World} {p : Prb} {x : PrbS} {v v' : Value} {L L' : List Tsk} (h : GatS w wr p x v L) (f : Below (w.heap.size + 1) wr w') (r : TRow w' (w.heap.size + 1) v' L') : GatS w w' p x v' L' :=
  ⟨r, h.low.trans (f.mono (Nat.le_succ _)), Nat.le_trans h.size f.size, h.box.on (Nat.lt_succ_self _) f⟩
/-- The best ones being picked: all tasks, which are used, what is picked. -/
structure PckS (w wr : World) (p : Prb) (x : PrbS) (v vo : Value) (base gu n : Nat) (u : List Bool) (O : List Tsk) : Prop where
  all : GatS w wr p x v (allT p)
  ab : ∀ g, v.ownBlock = some g → g < base
  gb : gu < base
  ga : w.heap.size + 1 ≤ gu
  gv : ∀ g, v.ownBlock = some g → g ≠ gu
  sz : base ≤ wr.heap.size
  used : wr.heap[gu]? = some (.cells (u.map Value.bool).toArray 4 (0, 0))
  ul : u.length = n
  out : TRow wr base vo O
  sum : O.length + (rem (allT p) u).length = n
  srt : tasksM p = O ++ isort (prioM p) (rem (allT p) u)
theorem PckS.on {w wr w' : World} {p : Prb} {x : PrbS} {v vo : Value} {base gu n : Nat} {u : List Bool} {O : List Tsk} (h : PckS w wr p x v vo base gu n u O) (f : Below wr.heap.size wr w') : PckS w w' p x v vo base gu n u O :=
  ⟨h.all.more (f.mono h.all.size) (h.all.row.later (Nat.le_refl _) f), h.ab, h.gb, h.ga, h.gv, Nat.le_trans h.sz f.size, by rw [f.block gu (Nat.lt_of_lt_of_le h.gb h.sz)]; exact h.used, h.ul, h.out.later (Nat.le_refl _) f, h.sum, h.srt⟩
/-- One is used and picked. -/
theorem PckS.pick {w wr w' : World} {p : Prb} {x : PrbS} {v vo vo' : Value} {base gu n b : Nat} {u : List Bool} {O : List Tsk} {m : Tsk} (h : PckS w wr p x v vo base gu n u O) (hb : u[b]? = some false) (hm : (allT p)[b]? = some m) (hs : isort (prioM p) (rem (allT p) u) = m :: isort (prioM p) (rem (allT p) (u.set b true)))
    (hr : TRow w' base vo' (O ++ [m])) (f : Below base (wr.setCell ⟨gu, b, none⟩ (.bool true)) w') : PckS w w' p x v vo' base gu n (u.set b true) (O ++ [m]) := by
  have e1 : (wr.setCell ⟨gu, b, none⟩ (.bool true)).heap[gu]? = some (.cells ((u.set b true).map Value.bool).toArray 4 (0, 0)) := by
    rw [heap_setCell_same _ _ _ _ _ _ h.used]
    congr 2
    apply Array.ext'
    simp [List.map_set]
  have ro : ∀ g, v.ownBlock = some g → (wr.setCell ⟨gu, b, none⟩ (.bool true)).heap[g]? = wr.heap[g]? := fun g hg => heap_setCell_other _ _ _ _ (h.gv g hg)
  have r1 : TRow w' (w.heap.size + 1) v (allT p) := own_of_block h.all.row fun g hg => (f.block g (h.ab g hg)).trans (ro g hg)
  have hsz := h.sz
  have hgb := h.gb
  have f0 : Below (w.heap.size + 1) wr (wr.setCell ⟨gu, b, none⟩ (.bool true)) := (Below.refl _ _).setCell h.ga _
  have f1 : Below (w.heap.size + 1) wr w' := f0.trans (f.mono (by have := h.ga; omega))
  refine ⟨h.all.more f1 r1, h.ab, h.gb, h.ga, h.gv, ?_, ?_, by rw [List.length_set]; exact h.ul, hr, ?_, ?_⟩
  · have := f.size; simp at this; omega
  · rw [f.block gu h.gb]; exact e1
  · have := h.sum; have := rem_set hm hb; rw [List.length_append]; simp; omega
  · rw [h.srt, hs]; simp
theorem TRow.lt2 {w : World} {base : Nat} {v : Value} {L : List Tsk} (h : TRow w base v L) : ∀ g, v.ownBlock = some g → g < w.heap.size := fun g hg => (World.ownsRow.lt h g hg).2
theorem own_mono2 {w : World} {base base' : Nat} {v : Value} {L : List Tsk} (h : TRow w base v L) (hb : base' ≤ base) : TRow w base' v L := by
  obtain ⟨h1, h2⟩ := h
  refine ⟨h1, ?_⟩
  rcases h2 with h2 | ⟨g, cap, cur, e, a, r⟩
  · exact .inl h2
  · exact .inr ⟨g, cap, cur, e, Nat.le_trans hb a, r⟩
theorem infoB4 : (Try.prog.info? 4).map (fun i => (i.zero, i.size, i.bytes)) = some (some (.bool false), 1, 1) := by kernel_rfl
theorem made_bools (n : Nat) (hn : n ≤ 1000) (w : World) : (Instr.makeSlice 109 (.int .i64 n) (.int .i64 n)).run Try.prog w = .ok (.slice (some ⟨w.heap.size, 0, none⟩) n n) (w.alloc (.cells (Array.replicate n (.bool false)) 4)) := by
  obtain ⟨i0, hi0, hz0, hz1, hz2⟩ := info_parts infoB4
  have := run_makeSlice (P := Try.prog) w 109 4 i0 _ Try.underlying109 hi0 hz0 .i64 .i64 n n (by omega) (by omega) (by rw [hz1]; omega) (by rw [hz2]; omega) (by omega)
  rw [hz1] at this
  simp only [Int.toNat_natCast, Nat.mul_one] at this
  have e : madeCells (Value.bool false).cells n = Array.replicate n (Value.bool false) := by
    apply Array.ext
    · simp [madeCells]
    · intro i h1 h2
      simp [madeCells, Value.cells, Nat.mod_one]
  rw [e] at this
  exact this
theorem PckS.outset {w wr : World} {p : Prb} {x : PrbS} {v vo : Value} {base gu n : Nat} {u : List Bool} {O : List Tsk} (h : PckS w wr p x v vo base gu n u O) (b : Nat) : TRow (wr.setCell ⟨gu, b, none⟩ (.bool true)) base vo O :=
  own_of_block h.out fun g hg => heap_setCell_other _ _ _ _ (by have := (World.ownsRow.lt h.out g hg).1; have := h.gb; simp only; omega)
theorem bools_get (u : List Bool) (k : Nat) (b : Bool) (h : u[k]? = some b) : ((u.map Value.bool).toArray)[k]? = some (.bool b) := by simp [h]
theorem row_at {w : World} {base n k : Nat} {va : Option Addr} {vc : Nat} {L : List Tsk} {t : Tsk} (h : TRow w base (.slice va n vc) L) (ht : L[k]? = some t) : ∃ g, va = some ⟨g, 0, none⟩ ∧ w.cell? ⟨g, k * 2, none⟩ = some (.bool t.1) ∧ w.cell? ⟨g, k * 2 + 1, none⟩ = some (.int .i64 t.2) ∧ L.length = n := by
  have hk := (List.getElem?_eq_some_iff.1 ht).1
  rcases h.2 with ⟨e, e2⟩ | ⟨g, cap, cur, e, _⟩
  · omega
  · injection e with e1 e2 e3
    subst e1 e3
    have e2' : n = L.length := e2
    subst e2'
    have := TRow.cells h k t ht
    exact ⟨g, rfl, this.1, this.2, rfl⟩
def slLen : Value → Nat
  | .slice _ n _ => n
  | _ => 0
set_option maxRecDepth 100000 in
set_option maxHeartbeats 3200000 in
theorem rtasks_any {w : World} {x : PrbS} {p : Prb} (h : PrbV w x p) (hf : p.js.length + p.ss.length ≤ 12) : Calls Try.prog 25 #[.agg (prbE p x)] w fun e w' => ∃ v, e = .returned v ∧ TRow w' w.heap.size v (tasksM p) ∧ Below w.heap.size w w' := by
  obtain ⟨ta, tc, da, dc, va, vc, ja, jc, sa, sc, rfl⟩ := h.open
  have HP := hide h
  have hv := SlV.bound h.v
  have hj := SlV.bound h.j
  have hs := SlV.bound h.s
  have ht := IntsV.bound h.t
  have hd := IntsV.bound h.d
  clear h
  unfold prbE
  obtain ⟨d, ⟨n, tL⟩, ⟨dn, dL⟩, vL, jL, sL⟩ := p
  simp only at HP hv hj hs ht hd hf ⊢
  obtain ⟨lt, hlt⟩ : ∃ k, tL.length = k := ⟨_, rfl⟩
  obtain ⟨ld, hld⟩ : ∃ k, dL.length = k := ⟨_, rfl⟩
  obtain ⟨lv, hlv⟩ : ∃ k, vL.length = k := ⟨_, rfl⟩
  obtain ⟨lj, hlj⟩ : ∃ k, jL.length = k := ⟨_, rfl⟩
  obtain ⟨ls, hls⟩ : ∃ k, sL.length = k := ⟨_, rfl⟩
  have HLT := hide hlt
  have HLD := hide hld
  have HLV := hide hlv
  have HLJ := hide hlj
  have HLS := hide hls
  rw [hlt, hld, hlv, hlj, hls] at HP
  rw [hlt] at ht
  rw [hld] at hd
  rw [hlv] at hv
  rw [hlj] at hj
  rw [hls] at hs
  rw [hlj, hls] at hf
  rw [hlt, hld, hlv, hlj, hls]
  clear hlt hld hlv hlj hls
  have HB0 : Hid (Below w.heap.size w (w.alloc (.cells #[.int .i64 d, .int .i64 n, .slice ta lt tc, .int .i64 dn, .slice da ld dc, .slice va lv vc, .slice ja lj jc, .slice sa ls sc] 29))) := (Below.refl _ _).alloc (Nat.le_refl _) _
  have HPE : Hid (PrbV (w.alloc (.cells #[.int .i64 d, .int .i64 n, .slice ta lt tc, .int .i64 dn, .slice da ld dc, .slice va lv vc, .slice ja lj jc, .slice sa ls sc] 29)) ⟨.slice ta lt tc, .slice da ld dc, .slice va lv vc, .slice ja lj jc, .slice sa ls sc⟩ ⟨d, ⟨n, tL⟩, ⟨dn, dL⟩, vL, jL, sL⟩) := HP.out.on HB0.out
  have HBX : Hid (BoxP (w.alloc (.cells #[.int .i64 d, .int .i64 n, .slice ta lt tc, .int .i64 dn, .slice da ld dc, .slice va lv vc, .slice ja lj jc, .slice sa ls sc] 29)) w.heap.size ⟨d, ⟨n, tL⟩, ⟨dn, dL⟩, vL, jL, sL⟩ ⟨.slice ta lt tc, .slice da ld dc, .slice va lv vc, .slice ja lj jc, .slice sa ls sc⟩) := fun j hj => by
    have hr := heap_alloc_new w (.cells #[.int .i64 d, .int .i64 n, .slice ta lt tc, .int .i64 dn, .slice da ld dc, .slice va lv vc, .slice ja lj jc, .slice sa ls sc] 29)
    rw [cell_of_row _ _ _ _ _ _ hr]
    rfl
  have HSZ : Hid (w.heap.size < (w.alloc (.cells #[.int .i64 d, .int .i64 n, .slice ta lt tc, .int .i64 dn, .slice da ld dc, .slice va lv vc, .slice ja lj jc, .slice sa ls sc] 29)).heap.size) := by show _ < _; simp
  have HG0 : Hid (GatS w (w.alloc (.cells #[.int .i64 d, .int .i64 n, .slice ta lt tc, .int .i64 dn, .slice da ld dc, .slice va lv vc, .slice ja lj jc, .slice sa ls sc] 29)) ⟨d, ⟨n, tL⟩, ⟨dn, dL⟩, vL, jL, sL⟩ ⟨.slice ta lt tc, .slice da ld dc, .slice va lv vc, .slice ja lj jc, .slice sa ls sc⟩ (.slice none 0 0) (jobsT 0)) := ⟨World.ownsRow_nil _ _ _ _, HB0.out, HSZ.out, HBX.out⟩
  go_enter Try.func25, Try.ntmps25
  go_wp2
  go_loopw [4, 3] (fun vi vs wr => ∃ (k : Nat) (ra : Option Addr) (rc : Nat), vi = .int .i64 k ∧ vs = .slice ra k rc ∧ k ≤ lj ∧ Hid (GatS w wr ⟨d, ⟨n, tL⟩, ⟨dn, dL⟩, vL, jL, sL⟩ ⟨.slice ta lt tc, .slice da ld dc, .slice va lv vc, .slice ja lj jc, .slice sa ls sc⟩ (.slice ra k rc) (jobsT k))) (fun vi _ _ => lj - (intOf vi).toNat)
  case atStart => exact ⟨0, none, 0, rfl, rfl, Nat.zero_le _, HG0.out⟩
  case round =>
    clear HG0
    obtain ⟨k, ra, rc, rfl, rfl, hk, HR⟩ := hrel
    have hb6 : wr.cell? ⟨w.heap.size, 6, none⟩ = some (.slice ja lj jc) := HR.out.box 6 (by decide)
    have hb7 : wr.cell? ⟨w.heap.size, 7, none⟩ = some (.slice sa ls sc) := HR.out.box 7 (by decide)
    by_cases hlt : k < lj
    · have i3 : (k : Int) < (lj : Int) := by omega
      go_wp2_with (at_builtin; refine app_tsk (t := (false, (k : Int))) (.tmp 21) (.tmp 24) rfl rfl rfl rfl HR.out.row (jobsT_len k) (by omega) HR.out.size ?_; intro g1 cap1 w1 k1 k2; have K1 := hide (HR.out.more k2 k1); clear k1 k2)
      go_roundw
      case rel => exact ⟨k + 1, some ⟨g1, 0, none⟩, cap1, by go_num, rfl, by omega, by rw [jobsT_succ]; exact K1.out⟩
      case measure => simp [intOf]; omega
    · have i3 : ¬ (k : Int) < (lj : Int) := by omega
      have hkk : lj = k := by omega
      subst hkk
      go_wp2
      go_loopw [5, 3] (fun vi vs wr => ∃ (q : Nat) (ra : Option Addr) (rc : Nat), vi = .int .i64 q ∧ vs = .slice ra (lj + q) rc ∧ q ≤ ls ∧ Hid (GatS w wr ⟨d, ⟨n, tL⟩, ⟨dn, dL⟩, vL, jL, sL⟩ ⟨.slice ta lt tc, .slice da ld dc, .slice va lv vc, .slice ja lj jc, .slice sa ls sc⟩ (.slice ra (lj + q) rc) (jobsT lj ++ shpsT q))) (fun vi _ _ => ls - (intOf vi).toNat)
      case atStart => exact ⟨0, ra, rc, rfl, rfl, Nat.zero_le _, by rw [show jobsT lj ++ shpsT 0 = jobsT lj by simp [shpsT]]; exact HR.out⟩
      case round =>
        clear HR hb6 hb7
        obtain ⟨q, ra, rc, rfl, rfl, hq, HR⟩ := hrel
        have hb7 : wr.cell? ⟨w.heap.size, 7, none⟩ = some (.slice sa ls sc) := HR.out.box 7 (by decide)
        by_cases hlt2 : q < ls
        · have i4 : (q : Int) < (ls : Int) := by omega
          go_wp2_with (at_builtin; refine app_tsk (t := (true, (q : Int))) (.tmp 33) (.tmp 36) rfl rfl rfl rfl HR.out.row (by rw [List.length_append, jobsT_len, shpsT_len]) (by omega) HR.out.size ?_; intro g1 cap1 w1 k1 k2; have K1 := hide (HR.out.more k2 k1); clear k1 k2)
          go_roundw
          case rel => exact ⟨q + 1, some ⟨g1, 0, none⟩, cap1, by go_num, rfl, by omega, by rw [shpsT_succ, ← List.append_assoc]; exact K1.out⟩
          case measure => simp [intOf]; omega
        · have i4 : ¬ (q : Int) < (ls : Int) := by omega
          have hqq : ls = q := by omega
          subst hqq
          have HAL : Hid (allT ⟨d, ⟨n, tL⟩, ⟨dn, dL⟩, vL, jL, sL⟩ = jobsT lj ++ shpsT ls) := by show _ = _; unfold allT; simp only; rw [HLJ.out, HLS.out]
          have HAN : Hid ((allT ⟨d, ⟨n, tL⟩, ⟨dn, dL⟩, vL, jL, sL⟩).length = lj + ls) := by show _ = _; rw [HAL.out, List.length_append, jobsT_len, shpsT_len]
          rw [← HAL.out] at HR
          clear HAL
          obtain ⟨m, hm⟩ : ∃ m, lj + ls = m := ⟨_, rfl⟩
          rw [hm] at HR HAN hf ⊢
          clear hm
          have HP0 : Hid (PckS w (wr.alloc (.cells (Array.replicate m (.bool false)) 4)) ⟨d, ⟨n, tL⟩, ⟨dn, dL⟩, vL, jL, sL⟩ ⟨.slice ta lt tc, .slice da ld dc, .slice va lv vc, .slice ja lj jc, .slice sa ls sc⟩ (.slice ra m rc) (.slice none 0 0) (wr.heap.size + 1) wr.heap.size m (List.replicate m false) []) := by
            have fA : Below wr.heap.size wr (wr.alloc (.cells (Array.replicate m (.bool false)) 4)) := (Below.refl _ _).alloc (Nat.le_refl _) _
            have hsz := HR.out.size
            refine ⟨HR.out.more (fA.mono hsz) (HR.out.row.later (Nat.le_refl _) fA), fun g hg => ?_, Nat.lt_succ_self _, hsz, fun g hg => ?_, (by simp), ?_, (by simp), World.ownsRow_nil _ _ _ _, ?_, ?_⟩
            · have := (HR.out.row.lt2 g hg); omega
            · have := (HR.out.row.lt2 g hg); omega
            · rw [heap_alloc_new]; congr 2; apply Array.ext'; simp
            · have := rem_all (allT ⟨d, ⟨n, tL⟩, ⟨dn, dL⟩, vL, jL, sL⟩); rw [HAN.out] at this; rw [this, HAN.out]; simp
            · have := rem_all (allT ⟨d, ⟨n, tL⟩, ⟨dn, dL⟩, vL, jL, sL⟩); rw [HAN.out] at this; rw [this]; rfl
          have HW := hide (Nat.lt_succ_self wr.heap.size)
          obtain ⟨W, hW⟩ : ∃ W, W = wr := ⟨_, rfl⟩
          rw [← hW] at HP0 HR HW hb7 ⊢
          clear hW
          have hmk : (Instr.makeSlice 109 (.int .i64 m) (.int .i64 m)).run Try.prog W = .ok (.slice (some ⟨W.heap.size, 0, none⟩) m m) (W.alloc (.cells (Array.replicate m (.bool false)) 4)) := made_bools m (by omega) W
          go_wp2
          clear hmk hb7
          go_loopw [6] (fun vo wr => ∃ (k : Nat) (oa : Option Addr) (oc : Nat) (u : List Bool) (O : List Tsk), vo = .slice oa k oc ∧ k ≤ m ∧ Hid (O.length = k) ∧ Hid (PckS w wr ⟨d, ⟨n, tL⟩, ⟨dn, dL⟩, vL, jL, sL⟩ ⟨.slice ta lt tc, .slice da ld dc, .slice va lv vc, .slice ja lj jc, .slice sa ls sc⟩ (.slice ra m rc) (.slice oa k oc) (W.heap.size + 1) W.heap.size m u O)) (fun vo _ => m - slLen vo)
          case atStart => exact ⟨0, none, 0, _, [], rfl, Nat.zero_le _, rfl, HP0.out⟩
          case round =>
            clear HP0 HR
            obtain ⟨k, oa, oc, u, O, rfl, hk, HO, HS⟩ := hrel
            by_cases hkm : k < m
            · have i5 : (k : Int) < (m : Int) := by omega
              obtain ⟨wo, hwo⟩ : ∃ wo, wo = wr := ⟨_, rfl⟩
              rw [← hwo] at HS ⊢
              clear hwo
              go_wp2
              go_loopw [9, 8] (fun vi vb wr => ∃ (i : Nat) (best : Int), vi = .int .i64 i ∧ vb = .int .i64 best ∧ i ≤ m ∧ Hid (PckS w wr ⟨d, ⟨n, tL⟩, ⟨dn, dL⟩, vL, jL, sL⟩ ⟨.slice ta lt tc, .slice da ld dc, .slice va lv vc, .slice ja lj jc, .slice sa ls sc⟩ (.slice ra m rc) (.slice oa k oc) (W.heap.size + 1) W.heap.size m u O) ∧ Hid (BestAt (prioM ⟨d, ⟨n, tL⟩, ⟨dn, dL⟩, vL, jL, sL⟩) (allT ⟨d, ⟨n, tL⟩, ⟨dn, dL⟩, vL, jL, sL⟩) u i best)) (fun vi _ _ => m - (intOf vi).toNat)
              case atStart => exact ⟨0, -1, rfl, rfl, Nat.zero_le _, HS.out, best_start _ _ _⟩
              case round =>
                clear HS
                obtain ⟨i, best, rfl, rfl, hi, HS, HBe⟩ := hrel
                by_cases him : i < m
                · have i6 : (i : Int) < (m : Int) := by omega
                  have i7 : (0 : Int) ≤ (i : Int) := by omega
                  obtain ⟨⟨ts, ti⟩, ht⟩ : ∃ t, (allT ⟨d, ⟨n, tL⟩, ⟨dn, dL⟩, vL, jL, sL⟩)[i]? = some t := ⟨_, List.getElem?_eq_getElem (by rw [HAN.out]; exact him)⟩
                  obtain ⟨ub, hu⟩ : ∃ b, u[i]? = some b := ⟨_, List.getElem?_eq_getElem (by rw [HS.out.ul]; exact him)⟩
                  obtain ⟨g, rfl, c1, c2, _⟩ := row_at HS.out.all.row ht
                  simp only at c1 c2
                  have HT := hide ht
                  have HU := hide hu
                  clear ht hu
                  have hgl : g < wr.heap.size := HS.out.all.row.lt2 g rfl
                  have r0 : wr.cell? ⟨w.heap.size, 0, none⟩ = some (.int .i64 d) := HS.out.all.box 0 (by decide)
                  have r1 : wr.cell? ⟨w.heap.size, 1, none⟩ = some (.int .i64 n) := HS.out.all.box 1 (by decide)
                  have r2 : wr.cell? ⟨w.heap.size, 2, none⟩ = some (.slice ta lt tc) := HS.out.all.box 2 (by decide)
                  have r3 : wr.cell? ⟨w.heap.size, 3, none⟩ = some (.int .i64 dn) := HS.out.all.box 3 (by decide)
                  have r4 : wr.cell? ⟨w.heap.size, 4, none⟩ = some (.slice da ld dc) := HS.out.all.box 4 (by decide)
                  have r5 : wr.cell? ⟨w.heap.size, 5, none⟩ = some (.slice va lv vc) := HS.out.all.box 5 (by decide)
                  have r6 : wr.cell? ⟨w.heap.size, 6, none⟩ = some (.slice ja lj jc) := HS.out.all.box 6 (by decide)
                  have r7 : wr.cell? ⟨w.heap.size, 7, none⟩ = some (.slice sa ls sc) := HS.out.all.box 7 (by decide)
                  obtain ⟨y, hy⟩ : ∃ y, prioM ⟨d, ⟨n, tL⟩, ⟨dn, dL⟩, vL, jL, sL⟩ (ts, ti) = y := ⟨_, rfl⟩
                  obtain ⟨z, hz⟩ : ∃ z, sklM ⟨d, ⟨n, tL⟩, ⟨dn, dL⟩, vL, jL, sL⟩ (ts, ti) = z := ⟨_, rfl⟩
                  have HY := hide hy
                  have HZ := hide hz
                  clear hy hz
                  have i7b : ¬ (m : Int) ≤ (i : Int) := by omega
                  cases ub with
                  | true =>
                    go_wp2
                    first | (go_region_held3 (fun w' => w'.cell? ⟨w.heap.size, 0, none⟩ = some (.int .i64 d) ∧ w'.cell? ⟨w.heap.size, 1, none⟩ = some (.int .i64 n) ∧ w'.cell? ⟨w.heap.size, 2, none⟩ = some (.slice ta lt tc) ∧ w'.cell? ⟨w.heap.size, 3, none⟩ = some (.int .i64 dn) ∧ w'.cell? ⟨w.heap.size, 4, none⟩ = some (.slice da ld dc) ∧ w'.cell? ⟨w.heap.size, 5, none⟩ = some (.slice va lv vc) ∧ w'.cell? ⟨w.heap.size, 6, none⟩ = some (.slice ja lj jc) ∧ w'.cell? ⟨w.heap.size, 7, none⟩ = some (.slice sa ls sc) ∧ w'.cell? ⟨g, i * 2, none⟩ = some (.bool ts) ∧ w'.cell? ⟨g, i * 2 + 1, none⟩ = some (.int .i64 ti)) (go_keep) (first | (go_at_call 18; refine (facts_any (HP.out.on (below_on HS.out.all.low ((Below.refl _ _).drew))) _ _).mono ?_; rintro e w2 ⟨rfl, kk⟩; rw [HY.out, HZ.out]; have KB := hide (below_on ((Below.refl _ _).drew) kk); have HS2 := hide (HS.out.on KB.out); have w2r0 : w2.cell? ⟨w.heap.size, 0, none⟩ = some (.int .i64 d) := HS2.out.all.box 0 (by decide); have w2r1 : w2.cell? ⟨w.heap.size, 1, none⟩ = some (.int .i64 n) := HS2.out.all.box 1 (by decide); have w2r2 : w2.cell? ⟨w.heap.size, 2, none⟩ = some (.slice ta lt tc) := HS2.out.all.box 2 (by decide); have w2r3 : w2.cell? ⟨w.heap.size, 3, none⟩ = some (.int .i64 dn) := HS2.out.all.box 3 (by decide); have w2r4 : w2.cell? ⟨w.heap.size, 4, none⟩ = some (.slice da ld dc) := HS2.out.all.box 4 (by decide); have w2r5 : w2.cell? ⟨w.heap.size, 5, none⟩ = some (.slice va lv vc) := HS2.out.all.box 5 (by decide); have w2r6 : w2.cell? ⟨w.heap.size, 6, none⟩ = some (.slice ja lj jc) := HS2.out.all.box 6 (by decide); have w2r7 : w2.cell? ⟨w.heap.size, 7, none⟩ = some (.slice sa ls sc) := HS2.out.all.box 7 (by decide); have d3 : w2.cell? ⟨W.heap.size, i, none⟩ = some (.bool true) := (by rw [cell_of_row _ _ _ _ _ _ HS2.out.used]; exact bools_get u i true HU.out); have d1 : w2.cell? ⟨g, i * 2, none⟩ = some (.bool ts) := (by rw [KB.out.cell (p := ⟨g, i * 2, none⟩) hgl]; exact c1); have d2 : w2.cell? ⟨g, i * 2 + 1, none⟩ = some (.int .i64 ti) := (by rw [KB.out.cell (p := ⟨g, i * 2 + 1, none⟩) hgl]; exact c2); clear kk))) | fail
                    rename_i hHeld
                    clear hHeld
                    go_wp2
                    go_roundw
                    case rel => exact ⟨i + 1, best, by go_num, rfl, by omega, HS2.out, best_skip _ HBe.out (by rw [HU.out]; simp)⟩
                    case measure => simp [intOf]; omega
                  | false =>
                    have hbe := HBe.out
                    rcases hbe with ⟨rfl, _⟩ | ⟨b, rfl, hbi, _, ⟨ms, mi⟩, hm0, _, _⟩
                    · have i8 : (-1 : Int) < 0 := by omega
                      have i9 : ¬ y < y := by omega
                      go_wp2
                      first | (go_region_held3 (fun w' => w'.cell? ⟨w.heap.size, 0, none⟩ = some (.int .i64 d) ∧ w'.cell? ⟨w.heap.size, 1, none⟩ = some (.int .i64 n) ∧ w'.cell? ⟨w.heap.size, 2, none⟩ = some (.slice ta lt tc) ∧ w'.cell? ⟨w.heap.size, 3, none⟩ = some (.int .i64 dn) ∧ w'.cell? ⟨w.heap.size, 4, none⟩ = some (.slice da ld dc) ∧ w'.cell? ⟨w.heap.size, 5, none⟩ = some (.slice va lv vc) ∧ w'.cell? ⟨w.heap.size, 6, none⟩ = some (.slice ja lj jc) ∧ w'.cell? ⟨w.heap.size, 7, none⟩ = some (.slice sa ls sc) ∧ w'.cell? ⟨g, i * 2, none⟩ = some (.bool ts) ∧ w'.cell? ⟨g, i * 2 + 1, none⟩ = some (.int .i64 ti)) (go_keep) (first | (go_at_call 18; refine (facts_any (HP.out.on (below_on HS.out.all.low ((Below.refl _ _).drew))) _ _).mono ?_; rintro e w2 ⟨rfl, kk⟩; rw [HY.out, HZ.out]; have KB := hide (below_on ((Below.refl _ _).drew) kk); have HS2 := hide (HS.out.on KB.out); have w2r0 : w2.cell? ⟨w.heap.size, 0, none⟩ = some (.int .i64 d) := HS2.out.all.box 0 (by decide); have w2r1 : w2.cell? ⟨w.heap.size, 1, none⟩ = some (.int .i64 n) := HS2.out.all.box 1 (by decide); have w2r2 : w2.cell? ⟨w.heap.size, 2, none⟩ = some (.slice ta lt tc) := HS2.out.all.box 2 (by decide); have w2r3 : w2.cell? ⟨w.heap.size, 3, none⟩ = some (.int .i64 dn) := HS2.out.all.box 3 (by decide); have w2r4 : w2.cell? ⟨w.heap.size, 4, none⟩ = some (.slice da ld dc) := HS2.out.all.box 4 (by decide); have w2r5 : w2.cell? ⟨w.heap.size, 5, none⟩ = some (.slice va lv vc) := HS2.out.all.box 5 (by decide); have w2r6 : w2.cell? ⟨w.heap.size, 6, none⟩ = some (.slice ja lj jc) := HS2.out.all.box 6 (by decide); have w2r7 : w2.cell? ⟨w.heap.size, 7, none⟩ = some (.slice sa ls sc) := HS2.out.all.box 7 (by decide); have d3 : w2.cell? ⟨W.heap.size, i, none⟩ = some (.bool false) := (by rw [cell_of_row _ _ _ _ _ _ HS2.out.used]; exact bools_get u i false HU.out); have d1 : w2.cell? ⟨g, i * 2, none⟩ = some (.bool ts) := (by rw [KB.out.cell (p := ⟨g, i * 2, none⟩) hgl]; exact c1); have d2 : w2.cell? ⟨g, i * 2 + 1, none⟩ = some (.int .i64 ti) := (by rw [KB.out.cell (p := ⟨g, i * 2 + 1, none⟩) hgl]; exact c2); clear kk))) | fail
                      rename_i hHeld
                      clear hHeld
                      have hgl2 : g < w2.heap.size := Nat.lt_of_lt_of_le hgl KB.out.size
                      go_wp2
                      first | (go_region_held3 (fun w' => w'.cell? ⟨w.heap.size, 0, none⟩ = some (.int .i64 d) ∧ w'.cell? ⟨w.heap.size, 1, none⟩ = some (.int .i64 n) ∧ w'.cell? ⟨w.heap.size, 2, none⟩ = some (.slice ta lt tc) ∧ w'.cell? ⟨w.heap.size, 3, none⟩ = some (.int .i64 dn) ∧ w'.cell? ⟨w.heap.size, 4, none⟩ = some (.slice da ld dc) ∧ w'.cell? ⟨w.heap.size, 5, none⟩ = some (.slice va lv vc) ∧ w'.cell? ⟨w.heap.size, 6, none⟩ = some (.slice ja lj jc) ∧ w'.cell? ⟨w.heap.size, 7, none⟩ = some (.slice sa ls sc) ∧ w'.cell? ⟨g, i * 2, none⟩ = some (.bool ts) ∧ w'.cell? ⟨g, i * 2 + 1, none⟩ = some (.int .i64 ti)) (go_keep) (first | (go_at_call 18; refine (facts_any (HP.out.on (below_on HS2.out.all.low ((Below.refl _ _).drew))) _ _).mono ?_; rintro e w3 ⟨rfl, kk⟩; rw [HY.out, HZ.out]; have KB := hide (below_on ((Below.refl _ _).drew) kk); have HS3 := hide (HS2.out.on KB.out); have w3r0 : w3.cell? ⟨w.heap.size, 0, none⟩ = some (.int .i64 d) := HS3.out.all.box 0 (by decide); have w3r1 : w3.cell? ⟨w.heap.size, 1, none⟩ = some (.int .i64 n) := HS3.out.all.box 1 (by decide); have w3r2 : w3.cell? ⟨w.heap.size, 2, none⟩ = some (.slice ta lt tc) := HS3.out.all.box 2 (by decide); have w3r3 : w3.cell? ⟨w.heap.size, 3, none⟩ = some (.int .i64 dn) := HS3.out.all.box 3 (by decide); have w3r4 : w3.cell? ⟨w.heap.size, 4, none⟩ = some (.slice da ld dc) := HS3.out.all.box 4 (by decide); have w3r5 : w3.cell? ⟨w.heap.size, 5, none⟩ = some (.slice va lv vc) := HS3.out.all.box 5 (by decide); have w3r6 : w3.cell? ⟨w.heap.size, 6, none⟩ = some (.slice ja lj jc) := HS3.out.all.box 6 (by decide); have w3r7 : w3.cell? ⟨w.heap.size, 7, none⟩ = some (.slice sa ls sc) := HS3.out.all.box 7 (by decide); have d4 : w3.cell? ⟨g, i * 2, none⟩ = some (.bool ts) := (by rw [KB.out.cell (p := ⟨g, i * 2, none⟩) hgl2]; exact d1); have d5 : w3.cell? ⟨g, i * 2 + 1, none⟩ = some (.int .i64 ti) := (by rw [KB.out.cell (p := ⟨g, i * 2 + 1, none⟩) hgl2]; exact d2); clear kk))) | fail
                      rename_i hHeld
                      clear hHeld
                      go_wp2
                      go_roundw
                      case rel => exact ⟨i + 1, i, by go_num, rfl, by omega, HS3.out, best_first _ HBe.out HT.out HU.out⟩
                      case measure => simp [intOf]; omega
                    · have i8 : ¬ (b : Int) < 0 := by omega
                      have i7c : (0 : Int) ≤ (b : Int) := by omega
                      have i7d : (b : Int) < (m : Int) := by omega
                      have i7e : ¬ (m : Int) ≤ (b : Int) := by omega
                      obtain ⟨g', e', c4, c5, _⟩ := row_at HS.out.all.row hm0
                      injection e' with e'
                      injection e' with e' _ _
                      subst e'
                      simp only at c4 c5
                      obtain ⟨y2, hy2⟩ : ∃ y, prioM ⟨d, ⟨n, tL⟩, ⟨dn, dL⟩, vL, jL, sL⟩ (ms, mi) = y := ⟨_, rfl⟩
                      obtain ⟨z2, hz2⟩ : ∃ z, sklM ⟨d, ⟨n, tL⟩, ⟨dn, dL⟩, vL, jL, sL⟩ (ms, mi) = z := ⟨_, rfl⟩
                      have HY2 := hide hy2
                      have HZ2 := hide hz2
                      have HM0 := hide hm0
                      clear hy2 hz2 hm0
                      go_wp2
                      first | (go_region_held3 (fun w' => w'.cell? ⟨w.heap.size, 0, none⟩ = some (.int .i64 d) ∧ w'.cell? ⟨w.heap.size, 1, none⟩ = some (.int .i64 n) ∧ w'.cell? ⟨w.heap.size, 2, none⟩ = some (.slice ta lt tc) ∧ w'.cell? ⟨w.heap.size, 3, none⟩ = some (.int .i64 dn) ∧ w'.cell? ⟨w.heap.size, 4, none⟩ = some (.slice da ld dc) ∧ w'.cell? ⟨w.heap.size, 5, none⟩ = some (.slice va lv vc) ∧ w'.cell? ⟨w.heap.size, 6, none⟩ = some (.slice ja lj jc) ∧ w'.cell? ⟨w.heap.size, 7, none⟩ = some (.slice sa ls sc) ∧ w'.cell? ⟨g, i * 2, none⟩ = some (.bool ts) ∧ w'.cell? ⟨g, i * 2 + 1, none⟩ = some (.int .i64 ti)) (go_keep) (first | (go_at_call 18; refine (facts_any (HP.out.on (below_on HS.out.all.low ((Below.refl _ _).drew))) _ _).mono ?_; rintro e w2 ⟨rfl, kk⟩; rw [HY.out, HZ.out]; have KB := hide (below_on ((Below.refl _ _).drew) kk); have HS2 := hide (HS.out.on KB.out); have w2r0 : w2.cell? ⟨w.heap.size, 0, none⟩ = some (.int .i64 d) := HS2.out.all.box 0 (by decide); have w2r1 : w2.cell? ⟨w.heap.size, 1, none⟩ = some (.int .i64 n) := HS2.out.all.box 1 (by decide); have w2r2 : w2.cell? ⟨w.heap.size, 2, none⟩ = some (.slice ta lt tc) := HS2.out.all.box 2 (by decide); have w2r3 : w2.cell? ⟨w.heap.size, 3, none⟩ = some (.int .i64 dn) := HS2.out.all.box 3 (by decide); have w2r4 : w2.cell? ⟨w.heap.size, 4, none⟩ = some (.slice da ld dc) := HS2.out.all.box 4 (by decide); have w2r5 : w2.cell? ⟨w.heap.size, 5, none⟩ = some (.slice va lv vc) := HS2.out.all.box 5 (by decide); have w2r6 : w2.cell? ⟨w.heap.size, 6, none⟩ = some (.slice ja lj jc) := HS2.out.all.box 6 (by decide); have w2r7 : w2.cell? ⟨w.heap.size, 7, none⟩ = some (.slice sa ls sc) := HS2.out.all.box 7 (by decide); have d3 : w2.cell? ⟨W.heap.size, i, none⟩ = some (.bool false) := (by rw [cell_of_row _ _ _ _ _ _ HS2.out.used]; exact bools_get u i false HU.out); have d1 : w2.cell? ⟨g, i * 2, none⟩ = some (.bool ts) := (by rw [KB.out.cell (p := ⟨g, i * 2, none⟩) hgl]; exact c1); have d2 : w2.cell? ⟨g, i * 2 + 1, none⟩ = some (.int .i64 ti) := (by rw [KB.out.cell (p := ⟨g, i * 2 + 1, none⟩) hgl]; exact c2); have f1 : w2.cell? ⟨g, b * 2, none⟩ = some (.bool ms) := (by rw [KB.out.cell (p := ⟨g, b * 2, none⟩) hgl]; exact c4); have f2 : w2.cell? ⟨g, b * 2 + 1, none⟩ = some (.int .i64 mi) := (by rw [KB.out.cell (p := ⟨g, b * 2 + 1, none⟩) hgl]; exact c5); clear kk))) | fail
                      rename_i hHeld
                      clear hHeld
                      have hgl2 : g < w2.heap.size := Nat.lt_of_lt_of_le hgl KB.out.size
                      go_wp2
                      first | (go_region_held3 (fun w' => w'.cell? ⟨w.heap.size, 0, none⟩ = some (.int .i64 d) ∧ w'.cell? ⟨w.heap.size, 1, none⟩ = some (.int .i64 n) ∧ w'.cell? ⟨w.heap.size, 2, none⟩ = some (.slice ta lt tc) ∧ w'.cell? ⟨w.heap.size, 3, none⟩ = some (.int .i64 dn) ∧ w'.cell? ⟨w.heap.size, 4, none⟩ = some (.slice da ld dc) ∧ w'.cell? ⟨w.heap.size, 5, none⟩ = some (.slice va lv vc) ∧ w'.cell? ⟨w.heap.size, 6, none⟩ = some (.slice ja lj jc) ∧ w'.cell? ⟨w.heap.size, 7, none⟩ = some (.slice sa ls sc) ∧ w'.cell? ⟨g, b * 2, none⟩ = some (.bool ms) ∧ w'.cell? ⟨g, b * 2 + 1, none⟩ = some (.int .i64 mi)) (go_keep) (first | (go_at_call 18; refine (facts_any (HP.out.on (below_on HS2.out.all.low ((Below.refl _ _).drew))) _ _).mono ?_; rintro e w3 ⟨rfl, kk⟩; rw [HY2.out, HZ2.out]; have KB := hide (below_on ((Below.refl _ _).drew) kk); have HS3 := hide (HS2.out.on KB.out); have w3r0 : w3.cell? ⟨w.heap.size, 0, none⟩ = some (.int .i64 d) := HS3.out.all.box 0 (by decide); have w3r1 : w3.cell? ⟨w.heap.size, 1, none⟩ = some (.int .i64 n) := HS3.out.all.box 1 (by decide); have w3r2 : w3.cell? ⟨w.heap.size, 2, none⟩ = some (.slice ta lt tc) := HS3.out.all.box 2 (by decide); have w3r3 : w3.cell? ⟨w.heap.size, 3, none⟩ = some (.int .i64 dn) := HS3.out.all.box 3 (by decide); have w3r4 : w3.cell? ⟨w.heap.size, 4, none⟩ = some (.slice da ld dc) := HS3.out.all.box 4 (by decide); have w3r5 : w3.cell? ⟨w.heap.size, 5, none⟩ = some (.slice va lv vc) := HS3.out.all.box 5 (by decide); have w3r6 : w3.cell? ⟨w.heap.size, 6, none⟩ = some (.slice ja lj jc) := HS3.out.all.box 6 (by decide); have w3r7 : w3.cell? ⟨w.heap.size, 7, none⟩ = some (.slice sa ls sc) := HS3.out.all.box 7 (by decide); have d4 : w3.cell? ⟨g, b * 2, none⟩ = some (.bool ms) := (by rw [KB.out.cell (p := ⟨g, b * 2, none⟩) hgl2]; exact f1); have d5 : w3.cell? ⟨g, b * 2 + 1, none⟩ = some (.int .i64 mi) := (by rw [KB.out.cell (p := ⟨g, b * 2 + 1, none⟩) hgl2]; exact f2); clear kk))) | fail
                      rename_i hHeld
                      clear hHeld
                      by_cases hyy : y2 < y
                      · go_wp2
                        go_roundw
                        case rel => exact ⟨i + 1, i, by go_num, rfl, by omega, HS3.out, best_more _ HBe.out HM0.out HT.out HU.out (by rw [HY.out, HY2.out]; exact hyy)⟩
                        case measure => simp [intOf]; omega
                      · go_wp2
                        go_roundw
                        case rel => exact ⟨i + 1, b, by go_num, rfl, by omega, HS3.out, best_less _ HBe.out HM0.out HT.out (by rw [HY.out, HY2.out]; exact hyy)⟩
                        case measure => simp [intOf]; omega
                · have i6 : ¬ (i : Int) < (m : Int) := by omega
                  have hii : i = m := by omega
                  subst hii
                  obtain ⟨b, rfl, hb, hu, ⟨ms, mi⟩, hm0, hsr⟩ := best_pick _ HBe.out HS.out.ul (by have := HS.out.sum; have := HO.out; omega)
                  obtain ⟨g, rfl, c1, c2, _⟩ := row_at HS.out.all.row hm0
                  simp only at c1 c2
                  have HU := hide hu
                  have HM0 := hide hm0
                  have HSR := hide hsr
                  clear hu hm0 hsr HBe
                  have hne : ¬ g = W.heap.size := HS.out.gv g rfl
                  have c3 : wr.cell? ⟨W.heap.size, b, none⟩ = some (.bool false) := by rw [cell_of_row _ _ _ _ _ _ HS.out.used]; exact bools_get u b false HU.out
                  have f3 : wr.frozen? ⟨W.heap.size, b, none⟩ = false := frozen_of_row _ _ _ _ _ HS.out.used
                  have i7c : (0 : Int) ≤ (b : Int) := by omega
                  have i7d : (b : Int) < (i : Int) := by omega
                  have i7e : ¬ (i : Int) ≤ (b : Int) := by omega
                  have HSZ9 : Hid (W.heap.size + 1 ≤ (wr.setCell ⟨W.heap.size, b, none⟩ (.bool true)).heap.size) := by show _ ≤ _; have := HS.out.sz; simp; omega
                  go_wp2_with (at_builtin; refine app_tsk (wr := wr.setCell ⟨W.heap.size, b, none⟩ (.bool true)) (t := (ms, mi)) (.tmp 84) (.tmp 89) rfl rfl rfl (by simp [go_sem]) (HS.out.outset b) HO.out (by omega) HSZ9.out ?_; intro g1 cap1 w1 k1 k2; have K1 := hide (HS.out.pick HU.out HM0.out HSR.out k1 k2); clear k1 k2)
                  go_roundw
                  case rel => exact ⟨k + 1, some ⟨g1, 0, none⟩, cap1, _, _, rfl, by omega, by show _ = _; rw [List.length_append, HO.out]; rfl, K1.out⟩
                  case measure => simp [slLen]; omega
            · have i5 : ¬ (k : Int) < (m : Int) := by omega
              have hkk : k = m := by omega
              subst hkk
              go_wp2
              go_ret
              refine ⟨_, rfl, ?_, HS.out.all.low⟩
              have hz : (rem (allT ⟨d, ⟨n, tL⟩, ⟨dn, dL⟩, vL, jL, sL⟩) u).length = 0 := by have := HS.out.sum; have := HO.out; omega
              have he : tasksM ⟨d, ⟨n, tL⟩, ⟨dn, dL⟩, vL, jL, sL⟩ = O := by rw [HS.out.srt, List.eq_nil_of_length_eq_zero hz]; simp [isort, isortF]
              rw [he]
              exact own_mono2 HS.out.out (by have := HS.out.ga; omega)
end Go.Proofs.Ytgjpkpmikbpcnaa
