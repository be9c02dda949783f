/-
  What the call of short's along does: the way to a place, by the places ahead.
-/
import Derived.Test.YtojkdmkeankcgaaDijkP
import Derived.Test.YtojkdmkeankcgaaShelf
import Derived.Test.YtojkdmkeankcgaaInts
import Derived.Lib.OwnBridge
import Derived.Deep.LoopGhost
namespace Go.Proofs.Ytojkdmkeankcgaa
open Go.RowKit Go.Sort

/-- The weight of a list of places, edge by edge. -/
def weighL (W : Nat → Nat → Option Int) : List Nat → Option Int
  | [] => none
  | [_] => some 0
  | a :: b :: r => oadd (W a b) (weighL W (b :: r))
/-- A way from s to t. -/
structure WayOk (n : Nat) (W : Nat → Nat → Option Int) (s t : Nat) (d : Int) (L : List Nat) : Prop where
  sum : weighL W L = some d
  first : L.head? = some s
  last : L.getLast? = some t
  all : ∀ x ∈ L, x < n
  len : L.length ≤ 32
def natsI (L : List Nat) : List Int := L.map Int.ofNat
/-- On the way back from t: P is behind, v comes next. -/
structure Trail (n : Nat) (W : Nat → Nat → Option Int) (s t : Nat) (D : Nat → Option Int) (rk : Nat → Nat) (dt : Int) (P : List Nat) (v : Nat) : Prop where
  vn : v < n
  sum : ∃ dv, D v = some dv ∧ weighL W (v :: P.reverse) = some (dt - dv)
  last : (v :: P.reverse).getLast? = some t
  all : ∀ x ∈ P, x < n
  len : P.length + rk v + 1 ≤ n
section
variable {n s t v : Nat} {W : Nat → Nat → Option Int} {D : Nat → Option Int} {A : Nat → Int} {rk : Nat → Nat} {dt : Int} {P : List Nat}
theorem trail_start (hB : Back n W s D A rk) (ht : t < n) (hd : D t = some dt) : Trail n W s t D rk dt [] t :=
  ⟨ht, ⟨dt, hd, by show some 0 = _; congr 1; omega⟩, rfl, fun x hx => by simp at hx, by have := hB.rank t dt ht hd; simp; omega⟩
theorem trail_step (hB : Back n W s D A rk) (h : Trail n W s t D rk dt P v) (hv : v ≠ s) : ∃ u : Nat, A v = (u : Int) ∧ Trail n W s t D rk dt (P ++ [v]) u ∧ rk u < rk v := by
  obtain ⟨dv, h1, h2⟩ := h.sum
  obtain ⟨u, du, x, hu, hdu, hx, hs, hA, hr⟩ := hB.ahead v dv h.vn h1 hv
  refine ⟨u, hA, ⟨hu, ⟨du, hdu, ?_⟩, ?_, fun y hy => ?_, ?_⟩, hr⟩
  · rw [List.reverse_append]
    show oadd (W u v) (weighL W (v :: P.reverse)) = _
    rw [hx, h2]
    show some (x + (dt - dv)) = _
    congr 1
    omega
  · rw [List.reverse_append]
    show (u :: v :: P.reverse).getLast? = _
    rw [List.getLast?_cons_cons]
    exact h.last
  · rcases List.mem_append.1 hy with hy | hy
    · exact h.all y hy
    · simp at hy; subst hy; exact h.vn
  · have := h.len
    simp
    omega
theorem trail_end (h : Trail n W s t D rk dt P s) (hs : D s = some 0) (hn : n ≤ 32) : WayOk n W s t dt (P ++ [s]).reverse := by
  obtain ⟨dv, h1, h2⟩ := h.sum
  rw [hs] at h1
  cases h1
  have e : (P ++ [s]).reverse = s :: P.reverse := by simp
  refine ⟨by rw [e, h2]; congr 1; omega, by rw [e]; rfl, by rw [e]; exact h.last, fun x hx => ?_, by have := h.len; simp; omega⟩
  rcases List.mem_append.1 (List.mem_reverse.1 hx) with hy | hy
  · exact h.all x hy
  · simp at hy; subst hy; exact h.vn
end
theorem natsI_app (L M : List Nat) : natsI (L ++ M) = natsI L ++ natsI M := by simp [natsI]
theorem natsI_rev (L : List Nat) : (natsI L).reverse = natsI L.reverse := by simp [natsI]
theorem natsI_len (L : List Nat) : (natsI L).length = L.length := by simp [natsI]
set_option maxRecDepth 100000 in
set_option maxHeartbeats 3200000 in
theorem along_any {w : World} {n s t ga base : Nat} {W : Nat → Nat → Option Int} {D : Nat → Option Int} {A : Nat → Int} {rk : Nat → Nat} {dt : Int} (hn : 1 ≤ n ∧ n ≤ 32) (hB : Back n W s D A rk) (hs : D s = some 0) (hr : IRow w base (.slice (some ⟨ga, 0, none⟩) n n) ((List.range n).map A)) (ht : t < n) (hd : D t = some dt) :
    Calls Try.prog 51 #[.slice (some ⟨ga, 0, none⟩) n n, .int .i64 t] w fun e w' => ∃ v L, e = .returned v ∧ IRow w' w.heap.size v (natsI L) ∧ WayOk n W s t dt L ∧ Below w.heap.size w w' := by
  have HB := hide hB
  have HR0 := hide hr
  have HS := hide hs
  have HT := hide (trail_start hB ht hd)
  have hga : ga < w.heap.size := (hr.lt ga rfl).2
  have HGA := hide hga
  obtain ⟨i0, hi0, hy0, hy1, hy2⟩ := info_parts info3
  have HI := hide (And.intro hi0 (And.intro hy0 (And.intro hy1 hy2)))
  obtain ⟨B, hBB⟩ : ∃ B, w.heap.size = B := ⟨_, rfl⟩
  have HBB := hide hBB
  rw [hBB] at HGA ⊢
  clear hB hr hs hi0 hy0 hy1 hy2 hBB hga hd
  go_enter Try.func51, Try.ntmps51
  go_wp2
  go_loopg [5, 6] (rk t + 1) (fun k vw vp wr => ∃ (P : List Nat) (va : Option Addr) (vc : Nat) (z : Int), vw = .slice va P.length vc ∧ vp = .int .i64 z ∧ Hid (Below B w wr ∧ IRow wr B (.slice va P.length vc) (natsI P) ∧ ((∃ v : Nat, z = (v : Int) ∧ k = rk v + 1 ∧ Trail n W s t D rk dt P v) ∨ (z = -1 ∧ k = 0 ∧ WayOk n W s t dt P.reverse))))
  case atStart => exact ⟨[], none, 0, t, rfl, rfl, by rw [← HBB.out]; exact Below.refl _ _, irow_nil _ _, .inl ⟨t, rfl, rfl, HT.out⟩⟩
  case round =>
    obtain ⟨P, va, vc, z, rfl, rfl, HR⟩ := hrel
    obtain ⟨hbl, hP, hc⟩ := HR.out
    have hBr : B ≤ wr.heap.size := by rw [← HBB.out]; exact hbl.size
    have HBL := hide hbl
    clear HR hbl
    rcases hc with ⟨v, rfl, rfl, hTr⟩ | ⟨rfl, rfl, hW⟩
    · have hvn := hTr.vn
      have hPl := hTr.len
      have c1 : wr.cell? ⟨ga, v, none⟩ = some (.int .i64 (A v)) := by
        have := HR0.out.cell v (by simpa using hvn)
        rw [HBL.out.cell (p := ⟨ga, v, none⟩) HGA.out, this]
        simp [hvn]
      have i1 : (v : Int) < (n : Int) := by omega
      have hne : ((v : Int) != -1) = true := by simp
      have HOW : Hid ((wr.alloc (.cells #[.int .i64 v] 3)).ownsRow B 3 1 (.slice va P.length vc) P.length (intsV (natsI P))) := by
        have := hP.alloc (.cells #[.int .i64 v] 3)
        unfold IRow at this
        rw [natsI_len] at this
        exact this
      have HNW : Hid (∀ j u, [Value.int .i64 v][j]? = some u → (wr.alloc (.cells #[.int .i64 v] 3)).cell? ((⟨wr.heap.size, 0, none⟩ : Addr).add j) = some u) := World.news_of_block (cs := #[.int .i64 v]) (t := 3) (fr := (0, 0)) (heap_alloc_new _ _)
      have HLB : Hid (Below B w (wr.alloc (.cells #[.int .i64 v] 3))) := HBL.out.alloc hBr _
      have HTr := hide hTr
      have HGW : Hid (∀ w3 : World, (wr.alloc (.cells #[.int .i64 v] 3)).grownBy w3 (Value.slice va P.length vc).ownBlock → w3.cell? ⟨ga, v, none⟩ = some (.int .i64 (A v))) := fun w3 hg => by
        have hga : ga < wr.heap.size := Nat.lt_of_lt_of_le HGA.out hBr
        rw [hg.cell_far ⟨ga, v, none⟩ (by show ga < _; simp; omega) (fun e => by have h1 := (HOW.out.lt _ e.symm).1; have h2 := HGA.out; simp only at h1; omega), World.cell?_alloc_lt _ _ _ (by show ga < _; exact hga)]
        exact c1
      clear hTr hP c1
      go_wp2_with (at_builtin; refine wpList_append_lies _ rfl (.tmp 14) (.tmp 16) 37 rfl B 3 i0 (.int .i64 0) 1 8 Try.underlying37 HI.out.1 HI.out.2.1 HI.out.2.2.1 HI.out.2.2.2 rfl (by decide) (.slice va P.length vc) P.length (intsV (natsI P)) rfl HOW.out ⟨wr.heap.size, 0, none⟩ 1 1 [.int .i64 v] rfl rfl HNW.out (by simp [Value.oneCell']) (by decide) (by unfold maxLen; omega) (by omega) (by simp; omega) (wr.heap.size + 1) (by simp) ?_)
      intro gg cap w3 hown1 hgrow hat hlt3
      have c3 := HGW.out w3 hgrow
      have H3 : Hid (Below B w w3 ∧ IRow w3 B (.slice (some ⟨gg, 0, none⟩) (P ++ [v]).length cap) (natsI (P ++ [v]))) := by
        refine ⟨HLB.out.grown hgrow (by simp; omega) fun k hk => (HOW.out.lt k hk).1, ?_⟩
        unfold IRow
        rw [natsI_app, intsV_app, show (natsI P ++ natsI [v]).length = P.length + 1 by simp [natsI], show (P ++ [v]).length = P.length + 1 by simp]
        exact hown1
      have hl3 : P.length + 1 = (P ++ [v]).length := by simp
      rw [hl3]
      clear hown1 hgrow hat HGW HOW HNW HLB hl3
      by_cases hvs : v = s
      · have HA : Hid (A v = -1) := by show A v = -1; rw [hvs]; exact HB.out.first
        have HWY : Hid (WayOk n W s t dt (P ++ [v]).reverse) := by
          have := HTr.out
          subst hvs
          exact trail_end this HS.out hn.2
        rw [HA.out] at c3
        replace hvs := hide hvs
        generalize P ++ [v] = P2 at H3 HWY ⊢
        go_wp2
        go_roundg 0
        case measure => omega
        case rel => exact ⟨P2, _, cap, -1, rfl, rfl, H3.out.1, H3.out.2, .inr ⟨rfl, rfl, HWY.out⟩⟩
      · obtain ⟨u, hA, hT2, hrk⟩ := trail_step HB.out HTr.out hvs
        have HT2 := hide hT2
        rw [hA] at c3
        clear hT2
        generalize P ++ [v] = P2 at H3 HT2 ⊢
        go_wp2
        go_roundg (rk u + 1)
        case measure => omega
        case rel => exact ⟨P2, _, cap, u, rfl, rfl, H3.out.1, H3.out.2, .inl ⟨u, rfl, rfl, HT2.out⟩⟩
    · have hne : ((-1 : Int) != -1) = false := by decide
      have HWY := hide hW
      have hPn : P.reverse ≠ [] := fun e => by have := hW.first; rw [e] at this; cases this
      have hv0 : Value.slice va P.length vc ≠ .slice none 0 0 := fun e => by
        have e2 : P.length = 0 := (Value.slice.inj e).2.1
        exact hPn (by rw [List.eq_nil_of_length_eq_zero e2]; rfl)
      have hP2 : wr.ownsRow B 3 1 (.slice va P.length vc) P.length ((natsI P).map (Value.int .i64 ·)) := by
        have := hP
        unfold IRow at this
        rw [natsI_len] at this
        exact this
      obtain ⟨gg, cap, hv, hb1, hb2, _, _, _, hH⟩ := Lib.holds_of_ownsRow (enc := Value.int .i64) hP2 hv0
      cases hv
      have HRV := hide (reverse_any gg 0 vc (natsI P) wr hH (by rw [natsI_len]; have := hW.len; rw [List.length_reverse] at this; omega))
      rw [natsI_len, natsI_rev] at HRV
      have HFN : Hid (∀ m, IRow (putRow (Value.int .i64) (Sort.ahead wr m) gg 0 (natsI P.reverse).toArray) B (.slice (some ⟨gg, 0, none⟩) P.length vc) (natsI P.reverse) ∧ Below B w (putRow (Value.int .i64) (Sort.ahead wr m) gg 0 (natsI P.reverse).toArray)) := fun m => by
        refine ⟨?_, Lib.below_putRow HBL.out hb1⟩
        have := Lib.ownsRow_putRow (enc := Value.int .i64) (q := m) (k := P.length) (ys := natsI P.reverse) hP2 (by rw [natsI_len, List.length_reverse]) (Nat.le_refl _)
        rw [List.take_of_length_le (by rw [natsI_len, List.length_reverse]; exact Nat.le_refl _)] at this
        unfold IRow
        rw [natsI_len, List.length_reverse]
        exact this
      clear hP hP2 hH
      go_wp2_with (go_at_call 66; refine HRV.out.mono ?_; rintro e w2 ⟨rfl, m, hw⟩; rw [hw]; clear hw)
      go_ret
      exact ⟨_, P.reverse, rfl, (HFN.out m).1, HWY.out, (HFN.out m).2⟩
end Go.Proofs.Ytojkdmkeankcgaa
