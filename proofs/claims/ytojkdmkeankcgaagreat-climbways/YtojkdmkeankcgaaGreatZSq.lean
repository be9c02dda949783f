/-
  Several texts in one.
-/
import Derived.Test.YtojkdmkeankcgaaGreatZScF
import Derived.Laws.AppendOwnNone
import Derived.Test.YtojkdmkeankcgaaGreatZBitsG
/-  What the call of shortcuts does: all shortcuts over a place; and appends of rows of links. -/
namespace Go.Proofs.YtojkdmkeankcgaaGreat
open Go.RowKit Go.Sort

/-- An append of links onto a row that the call owns. -/
theorem app_links {w : World} {ops : Array Oper} {rest : List Oper} {o : Oper} {a : Act} {Q : Exit → Act → World → Prop} (s x : Operand) (i0 : TypeInfo) (hi : Tryz.prog.info? 46 = some i0) (hz0 : i0.zero = some (.agg #[.int .i64 0, .int .i64 0, .int .i64 0, .int .i64 0])) (hz1 : i0.size = 4) (hz2 : i0.bytes = 32)
    (hgd : o.guard = none) (ho : o.op = .call { callee := .builtin .append, args := #[s, x], argTypes := #[43, 43] }) (base base2 : Nat) (v u : Value) (L M : List Lnk) (hs : a.eval s = v) (hown : LRow w base v L) (hx : a.eval x = u) (hr : LRow w base2 u M)
    (hlen : L.length + M.length ≤ 100000) (hbase : base ≤ w.heap.size)
    (h : ∀ v' w', LRow w' base v' (L ++ M) → w.grownBy w' v.ownBlock → wpList Tryz.prog ops Q rest (a.put o.dst v') w') : wpList Tryz.prog ops Q (o :: rest) a w := by
  have fin : ∀ (v' : Value) (w' : World), w'.ownsRow base 46 4 v' (L.length + M.length) (flatK L ++ flatK M) → w.grownBy w' v.ownBlock → wpList Tryz.prog ops Q rest (a.put o.dst v') w' := fun v' w' h1 h2 => by
    refine h v' w' ?_ h2
    unfold LRow
    rw [flatK_app, List.length_append]
    exact h1
  rcases hr.2 with ⟨e1, e2⟩ | ⟨g, cap, cur, e1, _, _, _, hcap, _⟩
  · have hM : M = [] := List.eq_nil_of_length_eq_zero e2
    subst hM e1
    refine wpList_append_own_none hgd s x 43 ho base 46 i0 4 Tryz.underlying43 hi v _ _ hs hown hx ?_
    refine h v w (by rw [List.append_nil]; exact hown) ⟨rfl, rfl, rfl, Nat.le_refl _, fun _ _ _ => rfl⟩
  · subst e1
    refine wpList_append_own _ hgd s x 43 ho base 46 i0 _ 4 32 Tryz.underlying43 hi hz0 hz1 hz2 rfl (by decide) v _ _ hs hown ⟨g, 0, none⟩ M.length cap (flatK M) hx (flatK_len M) (fun j u hu => World.ownsRow.cells (g := g) hr rfl j u hu) (flatK_one M) (by unfold maxLen; omega) (by omega) hbase ?_
    intro v' w' h1 h2 _
    exact fin v' w' h1 h2
/-- The shortcuts over o, as a list. -/
def ScL (n : Nat) (U V : Mx) (o : Nat) (GG : Nat → Nat → Option Lnk) : Prop := ∀ s x0 m0, V s o = some (x0, m0) → ∀ t, t < n → IsSc n U x0 s o t (GG s t)
def scsL (n : Nat) (S : List Nat) (GG : Nat → Nat → Option Lnk) : List Lnk := S.flatMap fun s => (List.range n).filterMap (GG s)
theorem scsL_len (n : Nat) (S : List Nat) (GG : Nat → Nat → Option Lnk) : (scsL n S GG).length ≤ S.length * n := by
  induction S with
  | nil => simp [scsL]
  | cons s r ih =>
    have h1 : ((List.range n).filterMap (GG s)).length ≤ n := Nat.le_trans (List.length_filterMap_le _ _) (by simp)
    rw [show scsL n (s :: r) GG = (List.range n).filterMap (GG s) ++ scsL n r GG from rfl, List.length_append, List.length_cons, Nat.succ_mul]
    omega
theorem scsL_app (n : Nat) (S T : List Nat) (GG : Nat → Nat → Option Lnk) : scsL n (S ++ T) GG = scsL n S GG ++ scsL n T GG := by simp [scsL]
theorem scsL_congr {n : Nat} {S : List Nat} {GG HH : Nat → Nat → Option Lnk} (h : ∀ s ∈ S, GG s = HH s) : scsL n S GG = scsL n S HH := by
  induction S with
  | nil => rfl
  | cons s r ih =>
    rw [show scsL n (s :: r) GG = (List.range n).filterMap (GG s) ++ scsL n r GG from rfl, show scsL n (s :: r) HH = (List.range n).filterMap (HH s) ++ scsL n r HH from rfl, h s (by simp), ih fun t ht => h t (by simp [ht])]
/-- While shortcuts runs. -/
structure ShIn (n : Nat) (w : World) (B : Nat) (U V : Mx) (o : Nat) (ga : Option Addr) (gc i : Nat) (L : List Lnk) (v : Value) (wr : World) : Prop where
  keys : IRow wr B (.slice ga (risL n fun a => V a o).length gc) (nI (risL n fun a => V a o))
  row : LRow wr B v L
  below : Below B w wr
  ex : ∃ GG, L = scsL n ((risL n fun a => V a o).take i) GG ∧ ∀ s ∈ (risL n fun a => V a o).take i, ∀ x0 m0, V s o = some (x0, m0) → ∀ t, t < n → IsSc n U x0 s o t (GG s t)
theorem sh_len {n i : Nat} {V : Mx} {o : Nat} {GG : Nat → Nat → Option Lnk} (hn : n ≤ 32) : (scsL n ((risL n fun a => V a o).take i) GG).length ≤ 1024 := by
  have h1 := scsL_len n ((risL n fun a => V a o).take i) GG
  have h2 : ((risL n fun a => V a o).take i).length ≤ n := Nat.le_trans (by rw [List.length_take]; exact Nat.min_le_right _ _) (by rw [risL_len]; exact num_le _ n)
  have h3 := Nat.mul_le_mul (Nat.le_trans h2 hn) hn
  omega
theorem sh_next {n i s : Nat} {U V : Mx} {o : Nat} {L : List Lnk} {G : Nat → Option Lnk} {x0 m0 : Int} (hi : i < (risL n fun a => V a o).length) (hs : (risL n fun a => V a o)[i]! = s) (hV : V s o = some (x0, m0)) (hG : ∀ t, t < n → IsSc n U x0 s o t (G t))
    (h : ∃ GG, L = scsL n ((risL n fun a => V a o).take i) GG ∧ ∀ s ∈ (risL n fun a => V a o).take i, ∀ x0 m0, V s o = some (x0, m0) → ∀ t, t < n → IsSc n U x0 s o t (GG s t)) :
    ∃ GG, L ++ (List.range n).filterMap G = scsL n ((risL n fun a => V a o).take (i + 1)) GG ∧ ∀ s ∈ (risL n fun a => V a o).take (i + 1), ∀ x0 m0, V s o = some (x0, m0) → ∀ t, t < n → IsSc n U x0 s o t (GG s t) := by
  obtain ⟨GG, rfl, h2⟩ := h
  have hs' : (risL n fun a => V a o)[i] = s := by rw [← hs, getElem!_pos (risL n fun a => V a o) i hi]
  have hnd := risL_nodup n fun a => V a o
  have hnot : s ∉ (risL n fun a => V a o).take i := fun hm => by
    rw [← hs'] at hm
    obtain ⟨j, hj, e⟩ := List.mem_iff_getElem.1 hm
    rw [List.getElem_take] at e
    have hj2 : j < i := by rw [List.length_take] at hj; omega
    have := (List.nodup_iff_pairwise_ne.1 hnd)
    have h3 := List.pairwise_iff_getElem.1 this j i (by omega) hi hj2
    exact h3 e
  refine ⟨fun a => if a = s then G else GG a, ?_, fun a ha x m hx t ht => ?_⟩
  · rw [List.take_add_one, List.getElem?_eq_getElem hi, scsL_app, scsL_congr (GG := fun a => if a = s then G else GG a) (HH := GG) (S := (risL n fun a => V a o).take i) (fun a ha => if_neg (fun e => hnot (by rw [← e]; exact ha)))]
    congr 1
    simp [scsL, hs']
  · rw [List.take_add_one, List.getElem?_eq_getElem hi, List.mem_append] at ha
    by_cases e : a = s
    · subst e
      rw [hV] at hx
      cases hx
      show IsSc n U _ a o t ((if a = a then G else GG a) t)
      rw [if_pos rfl]
      exact hG t ht
    · show IsSc n U x a o t ((if a = s then G else GG a) t)
      rw [if_neg e]
      rcases ha with ha | ha
      · exact h2 a ha x m hx t ht
      · simp [hs'] at ha
        exact absurd ha e
set_option maxRecDepth 100000 in
set_option maxHeartbeats 6400000 in
theorem shortcuts_any {n : Nat} {w : World} {b : LfB} {rv : Nat → Int} {U V : Mx} (h : LfA n w b rv U V) (hn : n ≤ 32) (hU : EOk n (wtM U) 4294967296000000) (hVb : ∀ s o x m, V s o = some (x, m) → s < n ∧ 0 ≤ x ∧ x ≤ 4294967296000000) {o : Nat} (ho : o < n) :
    Calls Tryz.prog 64 #[.pointer (some ⟨b.l, 0, none⟩), .int .i64 o] w fun e w' => ∃ v GG, e = .returned v ∧ ScL n U V o GG ∧ LRow w' w.heap.size v (scsL n (risL n fun a => V a o) GG) ∧ Below w.heap.size w w' := by
  have HL := hide h
  have HX := hide hU
  have HVB := hide (fun s o x m e => (hVb s o x m e).2)
  have HVN := hide (fun s o x m e => (hVb s o x m e).1)
  have HO := hide ho
  have hsame : risL n (dnF V o) = risL n fun a => V a o := risL_same fun q _ => by unfold dnF; cases V q o <;> rfl
  have HRI := hide (rising_links (h.md o ho) hn)
  rw [hsame] at HRI
  obtain ⟨i0, hi0, hy0, hy1, hy2⟩ := info_parts info59
  have HI := hide (And.intro hi0 (And.intro hy0 (And.intro hy1 hy2)))
  have hlen : (risL n fun a => V a o).length ≤ n := by rw [risL_len]; exact num_le _ n
  obtain ⟨B, hB⟩ : ∃ B, w.heap.size = B := ⟨_, rfl⟩
  have HBB := hide hB
  have c2 := h.c2
  have cd := h.cd ho
  have i1 : (o : Int) < (n : Int) := by omega
  rw [hB] at HRI ⊢
  clear h hU hVb hi0 hy0 hy1 hy2 hB hsame ho
  go_enter Tryz.func64, Tryz.ntmps64
  go_wp2_with (go_at_call 72; refine HRI.out.mono ?_; rintro e w1 ⟨v, rfl, h1, h2⟩; obtain ⟨ga, gc, rfl⟩ := h1.shape; rw [nI_len] at h1 ⊢; have H1 : Hid (ShIn n w B U V o ga gc 0 [] (.slice none 0 0) w1) := ⟨h1, lrow_nil _ _, h2, fun _ _ => none, rfl, fun s hs => by simp at hs⟩; clear h1 h2)
  clear HRI c2 cd
  go_loopw [5, 17] (fun vl vi wr => ∃ (i : Nat) (L : List Lnk) (va : Option Addr) (vc : Nat), vl = .slice va L.length vc ∧ vi = .int .i64 i ∧ i ≤ (risL n fun a => V a o).length ∧ Hid (ShIn n w B U V o ga gc i L (.slice va L.length vc) wr)) (fun _ vi _ => (risL n fun a => V a o).length - (intOf vi).toNat)
  case atStart => exact ⟨0, [], none, 0, rfl, rfl, Nat.zero_le _, H1.out⟩
  case round =>
    clear H1
    obtain ⟨i, L, va, vc, rfl, rfl, hi, HR⟩ := hrel
    by_cases hil : i < (risL n fun a => V a o).length
    · have hmem := mem_risL.1 (show (risL n fun a => V a o)[i]! ∈ risL n fun a => V a o by rw [getElem!_pos (risL n fun a => V a o) i hil]; exact List.getElem_mem hil)
      obtain ⟨g1, c1, hv, _, _, _, _⟩ := HR.out.keys.form (by rw [nI_len]; omega)
      have hkc := HR.out.keys
      injection hv with e1 e2 e3
      subst e1 e3
      have x1 := hkc.cell i (by rw [nI_len]; exact hil)
      rw [nI_get _ _ hil] at x1
      obtain ⟨s, hs'⟩ : ∃ s, (risL n fun a => V a o)[i]! = s := ⟨_, rfl⟩
      rw [hs'] at hmem x1
      obtain ⟨⟨x0, m0⟩, hV⟩ := Option.isSome_iff_exists.1 hmem.2
      have L1 := HL.out.later (by rw [HBB.out]; exact HR.out.below)
      have HSF := hide (shortcutsFrom_any L1 hn HX.out hmem.1 HO.out hV (HVB.out s o x0 m0 hV))
      have hBr : B ≤ wr.heap.size := by rw [← HBB.out]; exact HR.out.below.size
      have HNX : Hid (∀ G, (∀ t, t < n → IsSc n U x0 s o t (G t)) → ∃ GG, L ++ (List.range n).filterMap G = scsL n ((risL n fun a => V a o).take (i + 1)) GG ∧ ∀ s ∈ (risL n fun a => V a o).take (i + 1), ∀ x0 m0, V s o = some (x0, m0) → ∀ t, t < n → IsSc n U x0 s o t (GG s t)) := fun G hG => sh_next hil hs' hV hG HR.out.ex
      have HLL : Hid (L.length ≤ 1024) := by obtain ⟨GG, e, _⟩ := HR.out.ex; rw [e]; exact sh_len hn
      obtain ⟨N, hN⟩ : ∃ N, (risL n fun a => V a o).length = N := ⟨_, rfl⟩
      rw [hN] at hil hlen
      have i2 : (i : Int) < (N : Int) := by omega
      have HHI : Hid (i < N) := hil
      rw [hN]
      clear hkc hN hs' L1 hV
      go_wp2_with (first
        | (go_at_call 87; refine HSF.out.mono ?_; rintro e w2 ⟨v, G, rfl, h1, h2, h3⟩; have HG := hide h1; have HR2 : Hid (LRow w2 B (.slice va L.length vc) L ∧ LRow w2 wr.heap.size v ((List.range n).filterMap G) ∧ Below B w w2 ∧ IRow w2 B (.slice (some ⟨g1, 0, none⟩) (risL n fun a => V a o).length gc) (nI (risL n fun a => V a o))) := ⟨HR.out.row.later (Nat.le_refl _) h3, h2, HR.out.below.trans (h3.mono hBr), HR.out.keys.later (Nat.le_refl _) h3⟩; have hB2 : B ≤ w2.heap.size := Nat.le_trans hBr h3.size; clear h1 h2 h3)
        | (at_builtin; refine app_links (.tmp 21) (.tmp 25) i0 HI.out.1 HI.out.2.1 HI.out.2.2.1 HI.out.2.2.2 rfl rfl B wr.heap.size (.slice va L.length vc) v L _ rfl HR2.out.1 rfl HR2.out.2.1 (by have := HLL.out; have h9 : ((List.range n).filterMap G).length ≤ n := Nat.le_trans (List.length_filterMap_le _ _) (by simp); omega) hB2 ?_))
      intro v' w3 h1 h2
      obtain ⟨va', vc', rfl⟩ := h1.shape
      have H3 : Hid (ShIn n w B U V o (some ⟨g1, 0, none⟩) gc (i + 1) (L ++ (List.range n).filterMap G) (.slice va' (L ++ (List.range n).filterMap G).length vc') w3) := by
        refine ⟨own_of_block HR2.out.2.2.2 fun j hj => ?_, h1, HR2.out.2.2.1.grown h2 (by omega) fun k hk => (HR2.out.1.lt k hk).1, HNX.out G HG.out⟩
        have hjl := (HR2.out.2.2.2.lt j hj).2
        exact h2.block j hjl (fun e => lrow_ne_irow HR2.out.2.2.2 HR2.out.1 e.symm hj rfl)
      clear h1 h2 HR2 HSF HNX
      generalize L ++ (List.range n).filterMap G = L9 at H3 ⊢
      go_wp2
      go_roundw
      case rel => exact ⟨i + 1, _, va', vc', rfl, by go_num, by have := HHI.out; omega, H3.out⟩
      case measure => simp [intOf]; omega
    · have e : i = (risL n fun a => V a o).length := by omega
      obtain ⟨GG, hGG1, hGG2⟩ := HR.out.ex
      rw [e, List.take_of_length_le (Nat.le_refl _)] at hGG1 hGG2
      have HSC : Hid (ScL n U V o GG) := fun s x0 m0 hV t ht => hGG2 s (mem_risL.2 ⟨(HVN.out s o x0 m0 hV), by rw [hV]; rfl⟩) x0 m0 hV t ht
      have HF : Hid (LRow wr B (.slice va L.length vc) (scsL n (risL n fun a => V a o) GG) ∧ Below B w wr) := ⟨by rw [← hGG1]; exact HR.out.row, HR.out.below⟩
      obtain ⟨N, hN⟩ : ∃ N, (risL n fun a => V a o).length = N := ⟨_, rfl⟩
      rw [hN] at hil ⊢
      have i2 : ¬ (i : Int) < (N : Int) := by omega
      replace e := hide e
      clear hN HR hlen hGG1 hGG2
      go_wp2
      go_ret
      exact ⟨_, rfl, GG, HSC.out, HF.out.1, HF.out.2⟩
end Go.Proofs.YtojkdmkeankcgaaGreat
/-  Plain: what a lifted graph's maps hold, by its links and ranks; the shortcuts of a list joined; a place that is lifted. -/
namespace Go.Proofs.YtojkdmkeankcgaaGreat

def upM (K : Mx) (rk : Nat → Nat) : Mx := fun a c => if rk a ≤ rk c then K a c else none
def dnM (K : Mx) (rk : Nat → Nat) : Mx := fun a c => if rk c ≤ rk a then K a c else none
/-- The links of a list come, each in the place of one with its ends. -/
def jn (U : Mx) : List Lnk → Mx
  | [] => U
  | k :: r => jn (upd2 U k.1 k.2.1 (some k.2.2)) r
theorem jn_snoc (U : Mx) (L : List Lnk) (k : Lnk) : jn U (L ++ [k]) = upd2 (jn U L) k.1 k.2.1 (some k.2.2) := by
  induction L generalizing U with
  | nil => rfl
  | cons h r ih => exact ih _
theorem jn_out {U : Mx} {L : List Lnk} {a c : Nat} (h : ∀ k ∈ L, ¬ (k.1 = a ∧ k.2.1 = c)) : jn U L a c = U a c := by
  induction L generalizing U with
  | nil => rfl
  | cons k r ih =>
    rw [jn, ih fun x hx => h x (by simp [hx]), upd2_other]
    exact fun e => h k (by simp) ⟨e.1.symm, e.2.symm⟩
theorem jn_in {U : Mx} {L : List Lnk} {a c : Nat} {v : Lk} (hm : (a, c, v) ∈ L) (hu : ∀ k ∈ L, k.1 = a → k.2.1 = c → k.2.2 = v) : jn U L a c = some v := by
  induction L generalizing U with
  | nil => simp at hm
  | cons k r ih =>
    rw [jn]
    by_cases hr : (a, c, v) ∈ r
    · exact ih hr fun x hx => hu x (by simp [hx])
    · have hk : k = (a, c, v) := by
        rcases List.mem_cons.1 hm with e | e
        · exact e.symm
        · exact absurd e hr
      rw [jn_out, hk]
      · exact upd2_same _ _ _ _
      · intro x hx e
        have := hu x (by simp [hx]) e.1 e.2
        obtain ⟨x1, x2, x3⟩ := x
        simp only at e this
        exact hr (by rw [← e.1, ← e.2, ← this]; exact hx)
theorem upM_upd {K : Mx} {rk : Nat → Nat} {p q : Nat} (k : Option Lk) (h : rk p ≤ rk q) : upM (upd2 K p q k) rk = upd2 (upM K rk) p q k := by
  funext a c
  unfold upM upd2
  by_cases e : a = p ∧ c = q
  · rw [if_pos e, if_pos e, e.1, e.2, if_pos h]
  · rw [if_neg e, if_neg e]
theorem dnM_upd {K : Mx} {rk : Nat → Nat} {p q : Nat} (k : Option Lk) (h : rk q ≤ rk p) : dnM (upd2 K p q k) rk = upd2 (dnM K rk) p q k := by
  funext a c
  unfold dnM upd2
  by_cases e : a = p ∧ c = q
  · rw [if_pos e, if_pos e, e.1, e.2, if_pos h]
  · rw [if_neg e, if_neg e]
theorem jn_upM {n : Nat} {K : Mx} {rk : Nat → Nat} {L : List Lnk} (h : ∀ k ∈ L, rk k.1 = n ∧ rk k.2.1 = n) : jn (upM K rk) L = upM (jn K L) rk ∧ jn (dnM K rk) L = dnM (jn K L) rk := by
  induction L generalizing K with
  | nil => exact ⟨rfl, rfl⟩
  | cons k r ih =>
    obtain ⟨h1, h2⟩ := h k (by simp)
    have := ih (K := upd2 K k.1 k.2.1 (some k.2.2)) fun x hx => h x (by simp [hx])
    rw [jn, jn, jn, ← upM_upd _ (by omega), ← dnM_upd _ (by omega)]
    exact this
section
variable {n p : Nat} {K : Mx} {rk : Nat → Nat}
theorem wtM_upM {a c : Nat} {x : Int} : wtM (upM K rk) a c = some x ↔ rk a ≤ rk c ∧ wtM K a c = some x := by
  unfold wtM upM
  split
  · rename_i h; exact ⟨fun e => ⟨h, e⟩, fun e => e.2⟩
  · rename_i h; exact ⟨fun e => (by cases e), fun e => absurd e.1 h⟩
theorem wtM_dnM {a c : Nat} {x : Int} : wtM (dnM K rk) a c = some x ↔ rk c ≤ rk a ∧ wtM K a c = some x := by
  unfold wtM dnM
  split
  · rename_i h; exact ⟨fun e => ⟨h, e⟩, fun e => e.2⟩
  · rename_i h; exact ⟨fun e => (by cases e), fun e => absurd e.1 h⟩
/-- What is so of ranks and links while places are lifted. -/
structure Rk (n : Nat) (K : Mx) (rk : Nat → Nat) : Prop where
  le : ∀ a, a < n → rk a ≤ n
  lk : ∀ a c k, K a c = some k → a < n ∧ c < n ∧ a ≠ c
theorem Rk.wlk (h : Rk n K rk) {a c : Nat} {x : Int} (e : wtM K a c = some x) : a < n ∧ c < n ∧ a ≠ c := by
  obtain ⟨m, e⟩ := wtM_some.1 e
  exact h.lk a c _ e
theorem off_avoid (h : Rk n K rk) {s t : Nat} {d : Int} (hs : rk s = n) (hsp : s ≠ p) : Way n (offW (upM K rk) p) s t d ↔ Way n (avoid n K rk p) s t d := by
  constructor
  · intro hw
    have : Way n (avoid n K rk p) s t d ∧ rk t = n ∧ t ≠ p := by
      induction hw with
      | here => exact ⟨.here, hs, hsp⟩
      | @on u v d x hw hu hv hx ih =>
        obtain ⟨i1, i2, i3⟩ := ih
        unfold offW at hx
        split at hx
        · cases hx
        · rename_i hvp
          obtain ⟨q1, q2⟩ := wtM_upM.1 hx
          have := h.le v hv
          have hv2 : rk v = n := by omega
          exact ⟨i1.on hu hv (avoid_some.2 ⟨i2, hv2, i3, hvp, q2⟩), hv2, hvp⟩
    exact this.1
  · intro hw
    exact way_same (fun a b x _ _ hx => by
      obtain ⟨q1, q2, q3, q4, q5⟩ := avoid_some.1 hx
      unfold offW
      rw [if_neg q4]
      exact wtM_upM.2 ⟨by omega, q5⟩) hw
/-- The list of shortcuts, joined, is what lifting asks. -/
theorem jn_lift (h : Rk n K rk) (rp : rk p = n) {GG : Nat → Nat → Option Lnk} (hG : ScL n (upM K rk) (dnM K rk) p GG) {S : List Nat} (hS : ∀ s, s ∈ S ↔ s < n ∧ (dnM K rk s p).isSome = true) :
    IsLift n K rk p (jn K (scsL n S GG)) ∧ ∀ k ∈ scsL n S GG, k.1 < n ∧ k.2.1 < n ∧ rk k.1 = n ∧ rk k.2.1 = n := by
  have key : ∀ s t, t < n → s ∈ S → (∃ x y, Short n K rk p s t x y ∧ GG s t = some (s, t, (x + y, (p : Int)))) ∨ ((¬ ∃ x y, Short n K rk p s t x y) ∧ GG s t = none) := fun s t ht hs => by
    obtain ⟨hsn, hV⟩ := (hS s).1 hs
    obtain ⟨⟨x0, m0⟩, hV⟩ := Option.isSome_iff_exists.1 hV
    have hxV : wtM (dnM K rk) s p = some x0 := wtM_some.2 ⟨m0, hV⟩
    obtain ⟨r1, r2⟩ := wtM_dnM.1 hxV
    have rs : rk s = n := by have := h.le s hsn; omega
    have hsp : s ≠ p := (h.wlk r2).2.2
    rcases hG s x0 m0 hV t ht with ⟨y, e1, e2, e3, e4⟩ | ⟨e1, e2⟩
    · obtain ⟨q1, q2⟩ := wtM_upM.1 e1
      have rt : rk t = n := by have := h.le t ht; omega
      exact .inl ⟨x0, y, ⟨fun e => e2 e.symm, rs, rt, hsp, fun e => (h.wlk q2).2.2 e.symm, r2, q2, fun d hw => e3 d ((off_avoid h rs hsp).2 hw)⟩, e4⟩
    · refine .inr ⟨fun ⟨x, y, sh⟩ => e1 ⟨y, wtM_upM.2 ⟨by rw [rp, sh.rb]; exact Nat.le_refl _, sh.hy⟩, fun e => sh.ab e.symm, fun d hw => ?_⟩, e2⟩
      have := sh.hx
      rw [r2] at this
      cases this
      exact sh.far d ((off_avoid h rs hsp).1 hw)
  have mem : ∀ k, k ∈ scsL n S GG ↔ ∃ s t, s ∈ S ∧ t < n ∧ GG s t = some k := fun k => by
    unfold scsL
    rw [List.mem_flatMap]
    constructor
    · rintro ⟨s, hs, hk⟩
      rw [List.mem_filterMap] at hk
      obtain ⟨t, ht, e⟩ := hk
      exact ⟨s, t, hs, List.mem_range.1 ht, e⟩
    · rintro ⟨s, t, hs, ht, e⟩
      exact ⟨s, hs, List.mem_filterMap.2 ⟨t, List.mem_range.2 ht, e⟩⟩
  have memk : ∀ k ∈ scsL n S GG, ∃ x y, Short n K rk p k.1 k.2.1 x y ∧ k.2.2 = (x + y, (p : Int)) := fun k hk => by
    obtain ⟨s, t, hs, ht, e⟩ := (mem k).1 hk
    rcases key s t ht hs with ⟨x, y, sh, e2⟩ | ⟨_, e2⟩
    · rw [e2] at e; cases e; exact ⟨x, y, sh, rfl⟩
    · rw [e2] at e; cases e
  have uniq : ∀ {a c : Nat} {x y x' y' : Int}, Short n K rk p a c x y → Short n K rk p a c x' y' → x = x' ∧ y = y' := fun s1 s2 => by
    have h1 := s1.hx; rw [s2.hx] at h1
    have h2 := s1.hy; rw [s2.hy] at h2
    cases h1; cases h2
    exact ⟨rfl, rfl⟩
  refine ⟨fun a c => ?_, fun k hk => ?_⟩
  · by_cases hs : ∃ x y, Short n K rk p a c x y
    · obtain ⟨x, y, sh⟩ := hs
      refine .inl ⟨x, y, sh, jn_in ?_ fun k hk e1 e2 => ?_⟩
      · have ha := (h.wlk sh.hx).1
        have hc := (h.wlk sh.hy).2.1
        have hS' : a ∈ S := (hS a).2 ⟨ha, by
          obtain ⟨m, e⟩ := wtM_some.1 sh.hx
          unfold dnM
          rw [if_pos (by rw [rp, sh.ra]; exact Nat.le_refl _), e]
          rfl⟩
        rcases key a c hc hS' with ⟨x', y', sh', e⟩ | ⟨e, _⟩
        · obtain ⟨rfl, rfl⟩ := uniq sh sh'
          exact (mem _).2 ⟨a, c, hS', hc, e⟩
        · exact absurd ⟨x, y, sh⟩ e
      · obtain ⟨x', y', sh', e⟩ := memk k hk
        rw [e1, e2] at sh'
        obtain ⟨rfl, rfl⟩ := uniq sh sh'
        exact e
    · refine .inr ⟨hs, jn_out fun k hk e => ?_⟩
      obtain ⟨x', y', sh', _⟩ := memk k hk
      rw [e.1, e.2] at sh'
      exact hs ⟨x', y', sh'⟩
  · obtain ⟨x, y, sh, _⟩ := memk k hk
    exact ⟨(h.wlk sh.hx).1, (h.wlk sh.hy).2.1, sh.ra, sh.rb⟩
/-- Those links to q that are told apart are gone. -/
def delV (U V : Mx) (p : Nat) (todo : Nat → Bool) : Mx := fun a c => if a = p ∧ (U p c).isSome = true ∧ todo c = false then none else V a c
def delU (U V : Mx) (p : Nat) (todo : Nat → Bool) : Mx := fun a c => if c = p ∧ (V a p).isSome = true ∧ todo a = false then none else U a c
theorem delV_start (U V : Mx) (p : Nat) : delV U V p (fun c => (U p c).isSome) = V := by
  funext a c
  unfold delV
  split
  · rename_i h; have h3 : (U p c).isSome = false := h.2.2; rw [h.2.1] at h3; cases h3
  · rfl
theorem delU_start (U V : Mx) (p : Nat) : delU U V p (fun a => (V a p).isSome) = U := by
  funext a c
  unfold delU
  split
  · rename_i h; have h3 : (V a p).isSome = false := h.2.2; rw [h.2.1] at h3; cases h3
  · rfl
theorem delV_next {U V : Mx} {q : Nat} {todo : Nat → Bool} (h : (U p q).isSome = true) : delV U V p (fun t => todo t && !(t == q)) = upd2 (delV U V p todo) p q none := by
  funext a c
  unfold delV upd2
  by_cases e1 : a = p
  · subst e1
    by_cases e2 : c = q
    · subst e2; simp [h]
    · simp [e2]
  · simp [e1]
theorem delU_next {U V : Mx} {q : Nat} {todo : Nat → Bool} (h : (V q p).isSome = true) : delU U V p (fun t => todo t && !(t == q)) = upd2 (delU U V p todo) q p none := by
  funext a c
  unfold delU upd2
  by_cases e1 : c = p
  · subst e1
    by_cases e2 : a = q
    · subst e2; simp [h]
    · simp [e2]
  · simp [e1]
theorem del_end (h : Rk n K rk) (rp : rk p = n) {k : Nat} (hk : k < n) (hr : ∀ a, a < n → rk a < k ∨ rk a = n) {t1 t2 : Nat → Bool} (h1 : ∀ c, c < n → t1 c = false) (h2 : ∀ c, c < n → t2 c = false) :
    delV (upM K rk) (dnM K rk) p t1 = dnM K (updN rk p k) ∧ delU (upM K rk) (dnM K (updN rk p k)) p t2 = upM K (updN rk p k) := by
  have e1 : delV (upM K rk) (dnM K rk) p t1 = dnM K (updN rk p k) := by
    funext a c
    unfold delV dnM upM
    cases e : K a c with
    | none => simp
    | some v =>
      obtain ⟨ha, hc, hac⟩ := h.lk a c v e
      by_cases eap : a = p
      · subst eap
        rw [updN_same, updN_other _ _ (fun e => hac e.symm), e, rp]
        rcases hr c hc with r | r
        · rw [if_neg (show ¬ n ≤ rk c by omega), if_pos (show rk c ≤ k by omega)]
          simp [show rk c ≤ n by omega]
        · rw [r]
          simp [h1 c hc, show ¬ n ≤ k by omega]
      · rw [updN_other _ _ eap, if_neg (fun e => eap e.1)]
        by_cases ecp : c = p
        · subst ecp
          rw [updN_same, rp]
          rcases hr a ha with r | r
          · rw [if_neg (by omega), if_neg (by omega)]
          · rw [if_pos (by omega), if_pos (by omega)]
        · rw [updN_other _ _ ecp]
  refine ⟨e1, ?_⟩
  funext a c
  unfold delU dnM upM
  cases e : K a c with
  | none => simp
  | some v =>
    obtain ⟨ha, hc, hac⟩ := h.lk a c v e
    by_cases ecp : c = p
    · subst ecp
      rw [updN_same, updN_other _ _ hac, e, rp]
      rcases hr a ha with r | r
      · rw [if_neg (show ¬ k ≤ rk a by omega), if_pos (show rk a ≤ k by omega)]
        simp [show rk a ≤ n by omega]
      · rw [r]
        simp [h2 a ha, show ¬ n ≤ k by omega, show k ≤ n by omega]
    · rw [updN_other _ _ ecp, if_neg (fun e => ecp e.1)]
      by_cases eap : a = p
      · subst eap
        rw [updN_same, rp]
        rcases hr c hc with r | r
        · rw [if_neg (by omega), if_neg (by omega)]
        · rw [if_pos (by omega), if_pos (by omega)]
      · rw [updN_other _ _ eap]
end
end Go.Proofs.YtojkdmkeankcgaaGreat
/-  What the call of lift does: a place gets its rank, and those that wait get shortcuts over it. -/
namespace Go.Proofs.YtojkdmkeankcgaaGreat
open Go.RowKit Go.Sort

def updI (f : Nat → Int) (a : Nat) (x : Int) : Nat → Int := fun b => if b = a then x else f b
/-- While lift joins. -/
structure JoIn (n : Nat) (w : World) (b : LfB) (rv : Nat → Int) (U V : Mx) (B2 : Nat) (L : List Lnk) (va : Option Addr) (vc i : Nat) (wr : World) : Prop where
  lf : LfA n wr b rv (jn U (L.take i)) (jn V (L.take i))
  row : LRow wr B2 (.slice va L.length vc) L
  fr : Qu.Fr (b.S n) w wr
  ge : ∀ k, b.S n k → k < B2
/-- In the two loops in which links go. -/
structure DeIn (n : Nat) (w : World) (b : LfB) (rv : Nat → Int) (U V : Mx) (mb r : Nat) (F : Nat → Option Value) (todo : Nat → Bool) (k : Nat) (wr : World) : Prop where
  lf : LfA n wr b rv U V
  rg : RangeAt n wr mb r F todo k
  fr : Qu.Fr (b.S n) w wr
  nr : ¬ b.S n r
section
variable {n : Nat} {w wr w' : World} {b : LfB} {rv : Nat → Int} {U V : Mx}
theorem LfA.not_iter (h : LfA n w b rv U V) {r : Nat} {x : Option Nat} {s : Nat} {z : Array Nat} {c : Nat} (hr : w.heap[r]? = some (.mapIter x s z c)) : ¬ b.S n r := fun e => by
  rcases e with rfl | rfl | rfl | rfl | ⟨p, hp, rfl | rfl⟩
  · rw [h.box] at hr; cases hr
  · rw [h.rks] at hr; cases hr
  · rw [h.ups] at hr; cases hr
  · rw [h.dns] at hr; cases hr
  · obtain ⟨_, _, e⟩ := (h.mu p hp).isMap; rw [e] at hr; cases hr
  · obtain ⟨_, _, e⟩ := (h.md p hp).isMap; rw [e] at hr; cases hr
theorem LfA.iter (h : LfA n wr b rv U V) {r : Nat} (f : wr.grownBy w' (some r)) (hr : ¬ b.S n r) : LfA n w' b rv U V := h.of_blocks fun k hk => f.block k (h.lt hk) (fun e => by cases e; exact hr hk)
theorem fr_iter {S : Nat → Prop} {r : Nat} (h : Qu.Fr S w wr) (f : wr.grownBy w' (some r)) (hr : w.heap.size ≤ r) : Qu.Fr S w w' := h.trans (Qu.Fr.of_grown (S := fun k => k = r) f (fun k e => by cases e; rfl)) (fun i e => .inr (by omega))
end
theorem updI_same (f : Nat → Int) (a : Nat) (x : Int) : updI f a x a = x := if_pos rfl
theorem updI_other (f : Nat → Int) {a c : Nat} (x : Int) (h : c ≠ a) : updI f a x c = f c := if_neg h
theorem LfA.rank {n : Nat} {w : World} {b : LfB} {rv : Nat → Int} {U V : Mx} (h : LfA n w b rv U V) (p k : Nat) : LfA n (w.setCell ⟨b.gr, p, none⟩ (.int .i64 k)) b (updI rv p k) U V := by
  have oth : ∀ {j t : Nat} {c : Array Value} {fr : Nat × Nat}, w.heap[j]? = some (.cells c t fr) → t ≠ 3 → (w.setCell ⟨b.gr, p, none⟩ (.int .i64 k)).heap[j]? = some (.cells c t fr) := fun hj ht => by
    rw [heap_setCell_other _ _ _ _ (fun e => by rw [e, h.rks] at hj; simp at hj; exact ht hj.2.1.symm)]; exact hj
  have mp : ∀ {m : Nat} {F : Nat → Option Value}, MapAt n w m F → MapAt n (w.setCell ⟨b.gr, p, none⟩ (.int .i64 k)) m F := fun hm => hm.of_block (heap_setCell_other _ _ _ _ (fun e => hm.ne_cells h.rks e.symm))
  refine ⟨oth h.box (by decide), ?_, oth h.ups (by decide), oth h.dns (by decide), fun q hq => mp (h.mu q hq), fun q hq => mp (h.md q hq), h.uu, h.dd, h.ud, h.apart⟩
  rw [heap_setCell_same _ _ p _ _ _ h.rks]
  congr 2
  rw [List.setIfInBounds_toArray]
  congr 1
  have := map_set (fun v => Value.int .i64 (rv v)) (fun v => Value.int .i64 (updI rv p k v)) n p (fun v hv => by rw [updI_other _ _ hv])
  simp only [updI_same] at this
  exact this
theorem jn_take (U : Mx) (L : List Lnk) (i : Nat) (h : i < L.length) : jn U (L.take (i + 1)) = upd2 (jn U (L.take i)) L[i]!.1 L[i]!.2.1 (some L[i]!.2.2) := by
  rw [List.take_add_one, List.getElem?_eq_getElem h, getElem!_pos L i h]
  exact jn_snoc _ _ _
set_option maxRecDepth 100000 in
set_option maxHeartbeats 6400000 in
theorem lift_any {n : Nat} {w : World} {b : LfB} {rv : Nat → Int} {K : Mx} {rk : Nat → Nat} (h : LfA n w b rv (upM K rk) (dnM K rk)) (hn : n ≤ 32) (hK : Rk n K rk) (hb : ∀ a c x m, K a c = some (x, m) → 0 ≤ x ∧ x ≤ 4294967296000000)
    {p k : Nat} (hp : p < n) (rp : rk p = n) (hk : k < n) (hr : ∀ a, a < n → rk a < k ∨ rk a = n) :
    Calls Tryz.prog 35 #[.pointer (some ⟨b.l, 0, none⟩), .int .i64 p, .int .i64 k] w fun e w' => e = .returned (.tuple #[]) ∧ ∃ K', IsLift n K rk p K' ∧ LfA n w' b (updI rv p k) (upM K' (updN rk p k)) (dnM K' (updN rk p k)) ∧ Qu.Fr (b.S n) w w' := by
  have HL := hide h
  have hU : EOk n (wtM (upM K rk)) 4294967296000000 := fun a c x e => by
    obtain ⟨_, e⟩ := wtM_upM.1 e
    obtain ⟨m, e⟩ := wtM_some.1 e
    have := hb a c x m e
    have := hK.lk a c _ e
    exact ⟨this.1, this.2.1, by omega, by omega⟩
  have hV : ∀ s o x m, dnM K rk s o = some (x, m) → s < n ∧ 0 ≤ x ∧ x ≤ 4294967296000000 := fun s o x m e => by
    unfold dnM at e
    split at e
    · exact ⟨(hK.lk s o _ e).1, hb s o x m e⟩
    · cases e
  have HSC := hide (shortcuts_any h hn hU hV hp)
  have HLT : Hid (∀ GG, ScL n (upM K rk) (dnM K rk) p GG → IsLift n K rk p (jn K (scsL n (risL n fun a => dnM K rk a p) GG)) ∧ ∀ k ∈ scsL n (risL n fun a => dnM K rk a p) GG, k.1 < n ∧ k.2.1 < n ∧ rk k.1 = n ∧ rk k.2.1 = n) := fun GG hG => jn_lift hK rp hG fun s => mem_risL
  have HLN : Hid (∀ GG, (scsL n (risL n fun a => dnM K rk a p) GG).length ≤ 1024) := fun GG => by
    have := sh_len (n := n) (i := (risL n fun a => dnM K rk a p).length) (V := dnM K rk) (o := p) (GG := GG) hn
    rwa [List.take_of_length_le (Nat.le_refl _)] at this
  have HP := hide (And.intro hp (And.intro rp (And.intro hk hr)))
  have HKR := hide hK
  clear h hU hV hK hb rp hr
  obtain ⟨B, hB⟩ : ∃ B, w.heap.size = B := ⟨_, rfl⟩
  have HBB := hide hB
  rw [hB] at HSC
  clear hB
  go_enter Tryz.func35, Tryz.ntmps35
  go_wp2_with (go_at_call 64; refine HSC.out.mono ?_; rintro e w1 ⟨v, GG, rfl, h1, h2, h3⟩; obtain ⟨va, vc, rfl⟩ := h2.shape; have HIS := hide (HLT.out GG h1); have hll := HLN.out GG; generalize scsL n (risL n fun a => dnM K rk a p) GG = L at h2 HIS hll ⊢; have H1 : Hid (JoIn n w b rv (upM K rk) (dnM K rk) B L va vc 0 w1) := ⟨HL.out.later (by rw [HBB.out]; exact h3), h2, Qu.Fr.of_below (by rw [HBB.out]; exact h3), fun k hk => by rw [← HBB.out]; exact HL.out.lt hk⟩; clear h1 h2 h3)
  clear HSC HLT HLN
  go_loopw [14] (fun vi wr => ∃ i : Nat, vi = .int .i64 i ∧ i ≤ L.length ∧ Hid (JoIn n w b rv (upM K rk) (dnM K rk) B L va vc i wr)) (fun vi _ => L.length - (intOf vi).toNat)
  case atStart => exact ⟨0, rfl, Nat.zero_le _, H1.out⟩
  case round =>
    clear H1
    obtain ⟨i, rfl, hi, HR⟩ := hrel
    by_cases hil : i < L.length
    · obtain ⟨g1, c1, hv, _, hgl, _, _⟩ := HR.out.row.form (by omega)
      injection hv with e1 e2 e3
      subst e1 e3
      obtain ⟨x0, x1, x2, x3⟩ := HR.out.row.cells i hil
      have hmem : L[i]! ∈ L := by rw [getElem!_pos L i hil]; exact List.getElem_mem hil
      obtain ⟨k1, k2, _, _⟩ := HIS.out.2 _ hmem
      have HT := hide (And.intro (jn_take (upM K rk) L i hil) (jn_take (dnM K rk) L i hil))
      obtain ⟨lk, hlk⟩ : ∃ lk, L[i]! = lk := ⟨_, rfl⟩
      rw [hlk] at x0 x1 x2 x3 k1 k2 HT
      obtain ⟨q1, q2, q3, q4⟩ := lk
      simp only at x0 x1 x2 x3 k1 k2 HT
      have i1 : (i : Int) < (L.length : Int) := by omega
      have hf : Below wr.heap.size wr (wr.alloc (.cells #[.int .i64 q1, .int .i64 q2, .int .i64 q3, .int .i64 q4] 46)) := (Below.refl _ _).alloc (Nat.le_refl _) _
      have HLA := hide (HR.out.lf.later hf)
      have HJN := hide (join_any HLA.out hn k1 k2 q3 q4)
      have HRA := hide (HR.out.row.later (Nat.le_refl _) hf)
      have HFA : Hid (Qu.Fr (b.S n) w (wr.alloc (.cells #[.int .i64 q1, .int .i64 q2, .int .i64 q3, .int .i64 q4] 46)) ∧ ∀ k, b.S n k → k < B) := ⟨HR.out.fr.alloc _, HR.out.ge⟩
      clear hf hlk hmem HR
      go_wp2_with (go_at_call 59; refine HJN.out.mono ?_; rintro e w2 ⟨rfl, h1, h2⟩; have H2 : Hid (JoIn n w b rv (upM K rk) (dnM K rk) B L (some ⟨g1, 0, none⟩) vc (i + 1) w2) := ⟨by rw [HT.out.1, HT.out.2]; exact h1, own_of_block HRA.out fun k hk => h2.block k (HRA.out.lt k hk).2 (fun e => by have := HFA.out.2 k e; have := (HRA.out.lt k hk).1; omega), HFA.out.1.trans0 h2, HFA.out.2⟩; clear h1 h2)
      go_roundw
      case rel => exact ⟨i + 1, by go_num, by omega, H2.out⟩
      case measure => simp [intOf]; omega
    · have e : i = L.length := by omega
      have i1 : ¬ (i : Int) < (L.length : Int) := by omega
      have hlf := HR.out.lf
      rw [e, List.take_of_length_le (Nat.le_refl _)] at hlf
      obtain ⟨j1, j2⟩ := jn_upM (K := K) (rk := rk) (L := L) (n := n) (fun k hk => (HIS.out.2 k hk).2.2)
      rw [j1, j2] at hlf
      have hfr := HR.out.fr
      have HIL := hide HIS.out.1
      generalize jn K L = K2 at hlf HIL
      have HKR2 : Hid (Rk n K2 rk) := ⟨HKR.out.le, fun a c v hv => by
        rcases HIL.out a c with ⟨x, y, sh, e⟩ | ⟨_, e⟩
        · exact ⟨(HKR.out.wlk sh.hx).1, (HKR.out.wlk sh.hy).2.1, sh.ab⟩
        · rw [e] at hv; exact HKR.out.lk a c v hv⟩
      obtain ⟨w2, run2, hr2, hg2, hs2⟩ := range_start (hlf.mu p hp) Tryz.underlying93
      have c1 := hlf.c1
      have cu := hlf.cu hp
      have i2 : (p : Int) < (n : Int) := by omega
      obtain ⟨r, hrr⟩ : ∃ r, wr.heap.size = r := ⟨_, rfl⟩
      have hwr : w.heap.size ≤ r := by rw [← hrr]; exact hfr.size
      rw [hrr] at run2 hr2
      have HS2 : Hid (DeIn n w b rv (upM K2 rk) (delV (upM K2 rk) (dnM K2 rk) p fun c => (upF (upM K2 rk) p c).isSome) (b.mu p) r (upF (upM K2 rk) p) (fun c => (upF (upM K2 rk) p c).isSome) (num (upF (upM K2 rk) p) n) w2) := by
        have hb2 : Below wr.heap.size wr w2 := ⟨hg2.os, hg2.tape, hg2.output, hg2.size, fun k hk => hg2.block k hk (by simp)⟩
        have hl2 := hlf.later hb2
        have e3 : (fun c => (upF (upM K2 rk) p c).isSome) = fun c => (upM K2 rk p c).isSome := by funext c; unfold upF; cases upM K2 rk p c <;> rfl
        obtain ⟨_, _, _, hit⟩ := hr2.isIter
        exact ⟨by rw [e3, delV_start]; exact hl2, hr2, hfr.trans0 (Qu.Fr.of_below hb2), hl2.not_iter hit⟩
      obtain ⟨K0, hK0⟩ : ∃ K0, num (upF (upM K2 rk) p) n = K0 := ⟨_, rfl⟩
      rw [hK0] at HS2
      replace e := hide e
      clear hlf hfr HR hr2 hg2 hs2 hrr hK0 j1 j2 HIS HKR HL
      go_wp2
      clear run2 c1 cu
      go_loopg [] K0 (fun k2 wr => ∃ todo, Hid (DeIn n w b rv (upM K2 rk) (delV (upM K2 rk) (dnM K2 rk) p todo) (b.mu p) r (upF (upM K2 rk) p) todo k2 wr))
      case atStart => exact ⟨_, HS2.out⟩
      case round =>
        clear HS2
        obtain ⟨todo, HR⟩ := hrel
        rcases range_next HR.out.rg 0 with ⟨rfl, hall, hrun⟩ | ⟨q, v, w6, k6, hq, ht, hF, hrun, hrg, hk6, hg6, hs6, hent⟩
        · have hlf := HR.out.lf
          rw [(del_end HKR2.out HP.out.2.1 HP.out.2.2.1 HP.out.2.2.2 hall (t2 := fun _ => false) (fun _ _ => rfl)).1] at hlf
          have hfr := HR.out.fr
          obtain ⟨w2, run2, hr2, hg2, hs2⟩ := range_start (hlf.md p hp) Tryz.underlying93
          have c1 := hlf.c2
          have cu := hlf.cd hp
          obtain ⟨r', hrr⟩ : ∃ r, wr.heap.size = r := ⟨_, rfl⟩
          have hwr' : w.heap.size ≤ r' := by rw [← hrr]; exact hfr.size
          rw [hrr] at run2 hr2
          have HS2 : Hid (DeIn n w b rv (delU (upM K2 rk) (dnM K2 (updN rk p k)) p fun c => (dnF (dnM K2 (updN rk p k)) p c).isSome) (dnM K2 (updN rk p k)) (b.md p) r' (dnF (dnM K2 (updN rk p k)) p) (fun c => (dnF (dnM K2 (updN rk p k)) p c).isSome) (num (dnF (dnM K2 (updN rk p k)) p) n) w2) := by
            have hb2 : Below wr.heap.size wr w2 := ⟨hg2.os, hg2.tape, hg2.output, hg2.size, fun k hk => hg2.block k hk (by simp)⟩
            have hl2 := hlf.later hb2
            have e3 : (fun c => (dnF (dnM K2 (updN rk p k)) p c).isSome) = fun c => (dnM K2 (updN rk p k) c p).isSome := by funext c; unfold dnF; cases dnM K2 (updN rk p k) c p <;> rfl
            obtain ⟨_, _, _, hit⟩ := hr2.isIter
            exact ⟨by rw [e3, delU_start]; exact hl2, hr2, hfr.trans0 (Qu.Fr.of_below hb2), hl2.not_iter hit⟩
          obtain ⟨K1, hK1⟩ : ∃ K0, num (dnF (dnM K2 (updN rk p k)) p) n = K0 := ⟨_, rfl⟩
          rw [hK1] at HS2
          clear hlf hfr HR hr2 hg2 hs2 hrr hK1 hall
          go_wp2
          clear run2 c1 cu hrun
          go_loopg [] K1 (fun k2 wr => ∃ todo, Hid (DeIn n w b rv (delU (upM K2 rk) (dnM K2 (updN rk p k)) p todo) (dnM K2 (updN rk p k)) (b.md p) r' (dnF (dnM K2 (updN rk p k)) p) todo k2 wr))
          case atStart => exact ⟨_, HS2.out⟩
          case round =>
            clear HS2
            obtain ⟨todo2, HR⟩ := hrel
            rcases range_next HR.out.rg 0 with ⟨rfl, hall, hrun⟩ | ⟨q, v, w6, k6, hq, ht, hF, hrun, hrg, hk6, hg6, hs6, hent⟩
            · have hlf := HR.out.lf
              rw [(del_end HKR2.out HP.out.2.1 HP.out.2.2.1 HP.out.2.2.2 (t1 := fun _ => false) (fun _ _ => rfl) hall).2] at hlf
              have hfr := HR.out.fr
              have c0 := hlf.c0
              have cr := hlf.cr hp
              have zf : wr.frozen? ⟨b.gr, p, none⟩ = false := frozen_of_row wr b.gr p _ _ hlf.rks
              have HE : Hid (LfA n (wr.setCell ⟨b.gr, p, none⟩ (.int .i64 k)) b (updI rv p k) (upM K2 (updN rk p k)) (dnM K2 (updN rk p k)) ∧ Qu.Fr (b.S n) w (wr.setCell ⟨b.gr, p, none⟩ (.int .i64 k))) := ⟨hlf.rank p k, hfr.setCell _ _ (.inl (.inr (.inl rfl)))⟩
              clear hlf hfr HR hall
              go_wp2
              go_end0
              exact ⟨rfl, K2, HIL.out, HE.out.1, HE.out.2⟩
            · have hl6 := HR.out.lf.iter hg6 HR.out.nr
              have c1 := hl6.c1
              have cu := hl6.cu hq
              have i3 : (q : Int) < (n : Int) := by omega
              obtain ⟨w7, run7, m7, t7⟩ := MapAt.drop (hl6.mu q hq) Tryz.underlying93 hp (by omega) 0
              have hqs : ((dnM K2 (updN rk p k)) q p).isSome = true := by have := congrArg Option.isSome hF; unfold dnF at this; simpa using this
              have HE : Hid (DeIn n w b rv (delU (upM K2 rk) (dnM K2 (updN rk p k)) p fun t => todo2 t && !(t == q)) (dnM K2 (updN rk p k)) (b.md p) r' (dnF (dnM K2 (updN rk p k)) p) (fun t => todo2 t && !(t == q)) k6 w7) := by
                refine ⟨by rw [delU_next hqs]; exact hl6.turn_up hq (k := none) t7.grown m7, hrg.of_blocks (t7.grown.block _ hrg.map.lt (fun e => hl6.ud q p hq hp (Option.some.inj e).symm)) (t7.grown.block _ hrg.lt (fun e => by cases e; exact HR.out.nr (LfA.su hq))), ?_, HR.out.nr⟩
                exact (fr_iter HR.out.fr hg6 hwr').trans0 (Qu.Fr.of_grown t7.grown (fun j e => by cases e; exact LfA.su hq))
              clear hl6 m7 t7 hqs hg6 hs6 hrg hF ht HR
              go_wp2
              go_roundg k6
              case measure => omega
              case rel => exact ⟨_, HE.out⟩
        · have hl6 := HR.out.lf.iter hg6 HR.out.nr
          have c1 := hl6.c2
          have cu := hl6.cd hq
          have i3 : (q : Int) < (n : Int) := by omega
          obtain ⟨w7, run7, m7, t7⟩ := MapAt.drop (hl6.md q hq) Tryz.underlying93 hp (by omega) 0
          have hqs : ((upM K2 rk) p q).isSome = true := by have := congrArg Option.isSome hF; unfold upF at this; simpa using this
          have HE : Hid (DeIn n w b rv (upM K2 rk) (delV (upM K2 rk) (dnM K2 rk) p fun t => todo t && !(t == q)) (b.mu p) r (upF (upM K2 rk) p) (fun t => todo t && !(t == q)) k6 w7) := by
            refine ⟨by rw [delV_next hqs]; exact hl6.turn_dn hq (k := none) t7.grown m7, hrg.of_blocks (t7.grown.block _ hrg.map.lt (fun e => hl6.ud p q hp hq (Option.some.inj e))) (t7.grown.block _ hrg.lt (fun e => by cases e; exact HR.out.nr (LfA.sd hq))), ?_, HR.out.nr⟩
            exact (fr_iter HR.out.fr hg6 hwr).trans0 (Qu.Fr.of_grown t7.grown (fun j e => by cases e; exact LfA.sd hq))
          clear hl6 m7 t7 hqs hg6 hs6 hrg hF ht HR
          go_wp2
          go_roundg k6
          case measure => omega
          case rel => exact ⟨_, HE.out⟩
end Go.Proofs.YtojkdmkeankcgaaGreat
