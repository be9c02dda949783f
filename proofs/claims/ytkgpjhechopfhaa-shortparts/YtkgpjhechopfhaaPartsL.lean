/-
  What the law ShortParts does.
-/
import Derived.Test.YtkgpjhechopfhaaWeighS
import Derived.Test.YtkgpjhechopfhaaPartsP
import Derived.Test.YtkgpjhechopfhaaWaysL
import Derived.Deep.CutRange
namespace Go.Proofs.Ytkgpjhechopfhaa
open Go.RowKit Go.Sort

theorem umod (x : Int) (n : Nat) (hn : 0 < n) : ∃ u p : Nat, IntKind.u64.wrap x = (u : Int) ∧ Int.tmod (u : Int) (n : Int) = (p : Int) ∧ (u : Int) % (n : Int) = (p : Int) ∧ p < n := by
  obtain ⟨u, hu⟩ : ∃ u : Nat, IntKind.u64.wrap x = (u : Int) := ⟨(IntKind.u64.wrap x).toNat, by have := wrap_u64_nonneg x; omega⟩
  exact ⟨u, u % n, hu, rfl, rfl, Nat.mod_lt _ hn⟩
set_option maxRecDepth 100000 in
set_option maxHeartbeats 1600000 in
theorem parts_bad (n : Int) (a : Option Addr) (m c : Nat) (A : List Arc) (p0 q0 i0 j0 : Int) (w : World) (h : ArcsAt w a m A) (hc : a = none → c = 0) (hb : 300 < m ∨ (m ≤ 300 ∧ (checkM n A).2 ≠ 0)) :
    Calls Try.prog 14 #[.agg #[.int .i64 n, .slice a m c], .int .i64 p0, .int .i64 q0, .int .i64 i0, .int .i64 j0] w fun e w' => e = .returned (.bool true) ∧ Below w.heap.size w w' := by
  have HS := hide (rin_start w n a m c A h)
  have HGR : Hid (∀ w', ArcsAt w' a m A → Calls Try.prog 31 #[.agg #[.int .i64 n, .slice a m c], .bool false] w' fun e w'' => e = .returned (.tuple #[.pointer none, .agg #[.int .i64 0, .slice none 0 0], .agg #[.int .i64 0, .slice none 0 0], .bool false]) ∧ Below w'.heap.size w' w'') := fun w' h' => by
    rcases hb with hm | ⟨hm, he⟩
    · exact graph_many n a m c A false w' h' hm
    · exact graph_bad n a m c A false w' h' hc hm he
  clear h hc hb
  go_enter Try.func14, Try.ntmps14
  go_wp2_with (first
    | (go_at_call 30; refine (awakeS_any _).mono ?_; rintro e w1 ⟨rfl, h1⟩; have H1 := hide (HS.out.later h1); have c0 := H1.out.c0; have c1 := H1.out.c1; clear h1)
    | (go_at_call 31; refine (HGR.out _ H1.out.arcs).mono ?_; rintro e w2 ⟨rfl, h2⟩; have H2 := hide (H1.out.later h2); clear h2))
  go_ret
  exact ⟨rfl, (H2.out.below.alloc H2.out.below.size _).alloc (by have := H2.out.below.size; simp; omega) _⟩
set_option maxRecDepth 100000 in
set_option maxHeartbeats 6400000 in
theorem parts_good (n : Nat) (a : Option Addr) (m c : Nat) (A : List Arc) (p0 q0 i0 j0 : Int) (w : World) (h : ArcsAt w a m A) (hc : a = none → c = 0) (hm : m ≤ 300) (he : (checkM n A).2 = 0) :
    Calls Try.prog 14 #[.agg #[.int .i64 n, .slice a m c], .int .i64 p0, .int .i64 q0, .int .i64 i0, .int .i64 j0] w fun e w' => e = .returned (.bool true) ∧ Below w.heap.size w w' := by
  obtain ⟨hn0, hl, hok⟩ := checkM_ok he
  have hn : 1 ≤ n ∧ n ≤ 32 := by omega
  have HN := hide hn
  have HM := hide (mt_pos he false)
  have HWO : Hid (WOk n (tab (legsM (mtM false) A))) := fun p q x _ _ hx => tab_pos HM.out p q x hx
  have HS := hide (rin_start w n a m c A h)
  have HGR := hide (fun (w' : World) (h' : ArcsAt w' a m A) => graph_good n a m c A false w' h' hc hm he)
  obtain ⟨Q, hQ⟩ : ∃ Q, n * n = Q := ⟨_, rfl⟩
  have HQ := hide hQ
  have hQb : Q ≤ 1024 := by rw [← hQ]; exact (mul_wrap hn.2 hn.2).2
  have HQ0 : Hid (0 < n * n) := Nat.mul_pos (by omega) (by omega)
  clear h hc he hn0 hok hQ
  generalize tab (legsM (mtM false) A) = W at HWO HGR
  have HL1 : Hid ((cellsM n W).length = Q) := (cellsM_len n W).trans HQ.out
  have HL2 : Hid ((cellsM n (least n W)).length = Q) := (cellsM_len n (least n W)).trans HQ.out
  clear HQ0
  have HQ0 : Hid (0 < n * n) := Nat.mul_pos (by omega) (by omega)
  go_enter Try.func14, Try.ntmps14
  go_upto_region 6 with (first
    | (go_at_call 30; refine (awakeS_any _).mono ?_; rintro e w1 ⟨rfl, h1⟩; have H1 := hide (HS.out.later h1); have c0 := H1.out.c0; have c1 := H1.out.c1; clear h1)
    | (go_at_call 31; refine (HGR.out _ H1.out.arcs).mono ?_; rintro e w2 ⟨g, vt, vl, rfl, h2, h3, h4, h5⟩; obtain ⟨tg, tc, rfl, _⟩ := h3.form (by rw [cellsM_len]; exact HQ0.out); obtain ⟨lg, lc, rfl, _⟩ := h4.form (by rw [cellsM_len]; exact HQ0.out); rw [HL1.out] at h3 ⊢; rw [HL2.out] at h4 ⊢; have H3 := hide (g3_mk (H1.out.later h5) h2 h3 h4 HQ.out); clear h2 h3 h4 h5))
  obtain ⟨bx, hbx⟩ : ∃ b, w2.heap.size = b := ⟨_, rfl⟩
  rw [hbx] at H3
  try rw [hbx]
  generalize (w2.alloc (.cells #[.int .i64 n, .slice (some ⟨tg, 0, none⟩) Q tc] 41)).alloc (.cells #[.int .i64 n, .slice (some ⟨lg, 0, none⟩) Q lc] 41) = W0 at H3 ⊢
  have d0 := H3.out.ml.c0
  have nz : ((n : Int) == 0) = false := by simp; omega
  have nz2 : ¬ (n : Int) = 0 := by omega
  have nz3 : ¬ n = 0 := by omega
  obtain ⟨u, p, hu, htu, htu2, hp⟩ := umod p0 n (by omega)
  obtain ⟨v, q, hv, htv, htv2, hq⟩ := umod q0 n (by omega)
  have wn : IntKind.u64.wrap (n : Int) = (n : Int) := by rw [IntKind.wrap_u64]; omega
  have wp : IntKind.i64.wrap (p : Int) = (p : Int) := by rw [IntKind.wrap_i64]; omega
  have wq : IntKind.i64.wrap (q : Int) = (q : Int) := by rw [IntKind.wrap_i64]; omega
  have H3D := hide (H3.out.later (Below.refl W0.heap.size W0).drew)
  have HPQ := hide (And.intro hp hq)
  have HWY : Hid (Calls Try.prog 36 #[.pointer (some ⟨g, 0, none⟩), .int .i64 p, .int .i64 q] W0.drew fun e w' => ∃ v dd, e = .returned (.tuple #[v, .int .i64 dd]) ∧ w'.cell? ⟨bx + 1, 0, none⟩ = some (.int .i64 n) ∧ Hid (G3 w.heap.size w n a m c A g W bx tg tc lg lc Q w' ∧ ((v = .slice none 0 0) ∨ ∃ L, least n W p q = some dd ∧ IRow w' W0.heap.size v (natsI L) ∧ WayOk n W p q dd L))) := by
    refine (way_any H3D.out.gr HN.out HWO.out p q HPQ.out.1 HPQ.out.2).mono ?_
    rintro e w3 ⟨h1, D, h2, h3⟩
    have hDe : D q = least n W p q := h2.eq (least_is HWO.out p HPQ.out.1) q HPQ.out.2
    have H4 := H3D.out.later h1
    rw [hDe] at h3
    rcases h3 with ⟨a1, a2⟩ | ⟨d, v, L, a1, a2, a3, a4⟩
    · exact ⟨_, _, a2, H4.ml.c0, H4, .inl rfl⟩
    · exact ⟨_, _, a2, H4.ml.c0, H4, .inr ⟨L, a1, a3, a4⟩⟩
  clear c0 c1 hp hq
  go_region_held (fun w' => w'.cell? ⟨bx + 1, 0, none⟩ = some (.int .i64 n)) (go_keep) (first | (go_at_call 36; refine HWY.out.mono ?_; rintro e w3 ⟨vv, dd, rfl, d0, H5⟩))
  rcases H5.out.2 with hv1 | ⟨L, hn1, hrow, hway⟩
  · subst hv1
    go_wp2
    go_ret
    exact ⟨rfl, H5.out.1.rin.below⟩
  have hlen := hway.len
  have HWAY := hide (And.intro hway hn1)
  have hL1 : 1 ≤ L.length := by
    have := hway.first
    rcases L with _ | ⟨z, r⟩
    · cases this
    · simp
  obtain ⟨gv, cv', rfl, _, hgl, hc1, hc2⟩ := hrow.form (by rw [natsI_len]; omega)
  rw [natsI_len] at hrow hc1
  try rw [natsI_len]
  have HCL : Hid (∀ k, k < L.length → w3.cell? ⟨gv, k, none⟩ = some (.int .i64 (L[k]! : Nat))) := fun k hk => by
    have := hrow.cell k (by rw [natsI_len]; exact hk)
    rw [this, getElem!_pos _ k (by rw [natsI_len]; exact hk), getElem!_pos L k hk]
    simp [natsI]
  have HG5 := hide H5.out.1
  have HGL := hide hgl
  clear H5 hn1 hrow hway d0 hgl hu hv htu htu2 htv htv2 wn wp wq nz nz2 nz3 H1 HGR HS
  have lz1 : ((L.length : Int) == 0) = false := by rw [beq_eq_false_iff_ne]; omega
  have lz2 : ¬ (L.length : Int) = 0 := by omega
  go_wp2
  obtain ⟨u3, x, hu3, ht3, ht32, hx⟩ := umod i0 L.length (by omega)
  obtain ⟨u4, y, hu4, ht4, ht42, hy⟩ := umod j0 L.length (by omega)
  have wl : IntKind.u64.wrap (L.length : Int) = (L.length : Int) := by rw [IntKind.wrap_u64]; omega
  have lz3 : ¬ L.length = 0 := by omega
  have wx : IntKind.i64.wrap (x : Int) = (x : Int) := by rw [IntKind.wrap_i64]; omega
  have wy : IntKind.i64.wrap (y : Int) = (y : Int) := by rw [IntKind.wrap_i64]; omega
  go_quiet (fail)
  have H6 : Hid (G3 w.heap.size w n a m c A g W bx tg tc lg lc Q (w3.drewN nq) ∧ (∀ k, k < L.length → (w3.drewN nq).cell? ⟨gv, k, none⟩ = some (.int .i64 (L[k]! : Nat))) ∧ gv < (w3.drewN nq).heap.size) := by
    have f : Below w3.heap.size w3 (w3.drewN nq) := Qu.below_drewN (Below.refl _ _) nq
    exact ⟨HG5.out.later f, fun k hk => (f.cell (p := ⟨gv, k, none⟩) HGL.out).trans (HCL.out k hk), Nat.lt_of_lt_of_le HGL.out f.size⟩
  generalize w3.drewN nq = W4 at H6 ⊢
  clear HCL HG5 HGL hu3 hu4 ht3 ht4 ht32 ht42 wl
  by_cases hxy : y < x
  · have g1 : (y : Int) < (x : Int) := by omega
    have hij : y ≤ x := by omega
    have hj : x < L.length := by omega
    have hi : y < L.length := by omega
    obtain ⟨dx, hdx, hMx⟩ := part_ok HWO.out HWAY.out.1 HPQ.out.1 HWAY.out.2 hij hj
    have ci := H6.out.2.1 y hi
    have cj := H6.out.2.1 x hj
    have hLi := HWAY.out.1.all L[y]! (by rw [getElem!_pos L y hi]; exact List.getElem_mem _)
    have hLj := HWAY.out.1.all L[x]! (by rw [getElem!_pos L x hj]; exact List.getElem_mem _)
    have HMX : Hid (weighZ n W (natsI ((L.drop y).take (x + 1 - y))) = dx ∧ (natsI ((L.drop y).take (x + 1 - y))).length = x + 1 - y ∧ ∀ k, k < x + 1 - y → (natsI ((L.drop y).take (x + 1 - y)))[k]! = ((L[y + k]! : Nat) : Int)) := by
      have hl : (natsI ((L.drop y).take (x + 1 - y))).length = x + 1 - y := by rw [natsI_len, List.length_take, List.length_drop]; omega
      refine ⟨weigh_way HWO.out hMx, hl, fun k hk => ?_⟩
      rw [getElem!_pos _ k (by rw [hl]; exact hk), getElem!_pos L (y + k) (by omega)]
      simp [natsI]
    have HWY2 : Hid (Calls Try.prog 36 #[.pointer (some ⟨g, 0, none⟩), .int .i64 (L[y]! : Nat), .int .i64 (L[x]! : Nat)] W4.drew fun e w' => ∃ v, e = .returned (.tuple #[v, .int .i64 dx]) ∧ w'.cell? ⟨gv, y, none⟩ = some (.int .i64 (L[y]! : Nat)) ∧ w'.cell? ⟨gv, x, none⟩ = some (.int .i64 (L[x]! : Nat)) ∧ Hid (Calls Try.prog 38 #[.pointer (some ⟨g, 0, none⟩), .slice (some ⟨gv, y, none⟩) (x + 1 - y) (cv' - y)] w' (fun e w'' => e = .returned (.int .i64 dx) ∧ Below w.heap.size w w''))) := by
      have f0 : Below W4.heap.size W4 W4.drew := (Below.refl W4.heap.size W4).drew
      have G0 := H6.out.1.later f0
      refine (way_any G0.gr HN.out HWO.out L[y]! L[x]! hLi hLj).mono ?_
      rintro e w5 ⟨h1, D, h2, h3⟩
      have hDe : D L[x]! = least n W L[y]! L[x]! := h2.eq (least_is HWO.out _ hLi) _ hLj
      have G1 := G0.later h1
      have hcell : ∀ k, k < L.length → w5.cell? ⟨gv, k, none⟩ = some (.int .i64 (L[k]! : Nat)) := fun k hk => ((f0.trans h1).cell (p := ⟨gv, k, none⟩) H6.out.2.2).trans (H6.out.2.1 k hk)
      rw [hDe, hdx] at h3
      rcases h3 with ⟨a1, a2⟩ | ⟨d, v, L', a1, a2, a3, a4⟩
      · cases a1
      · cases a1
        refine ⟨_, a2, hcell _ hi, hcell _ hj, ?_⟩
        have hz : IntsAt w5 (some ⟨gv, y, none⟩) (natsI ((L.drop y).take (x + 1 - y))) := fun k hk => by
          rw [HMX.out.2.1] at hk
          refine ⟨gv, y, rfl, ?_⟩
          rw [HMX.out.2.2 k hk]
          exact hcell _ (by omega)
        have := weighS_any (vc := cv' - y) G1.gr HN.out HWO.out hz (by rw [HMX.out.2.1]; omega) (by rw [HMX.out.2.1]; omega)
        rw [HMX.out.2.1, HMX.out.1] at this
        exact this.mono fun e w6 h => ⟨h.1, (G1.later h.2).rin.below⟩
    have x1 : (y : Int) < (L.length : Int) := by omega
    have x2 : (x : Int) < (L.length : Int) := by omega
    have x3 : (y : Int) ≤ (x : Int) + 1 := by omega
    have x4 : (x : Int) + 1 ≤ (cv' : Int) := by omega
    have x5 : ((x : Int) + 1).toNat = x + 1 := by omega
    have x6 : ¬ cv' = y := by omega
    have x7 : ¬ cv' - y = 0 := by omega
    have z1 : (dx == dx) = true := by simp
    clear hdx hMx hLi hLj H6 HWY H3 H3D HMX
    obtain ⟨li, hli⟩ : ∃ l, L[y]! = l := ⟨_, rfl⟩
    obtain ⟨lj, hlj⟩ : ∃ l, L[x]! = l := ⟨_, rfl⟩
    rw [hli] at ci HWY2
    rw [hlj] at cj HWY2
    clear hli hlj
    go_wp2
    go_region_held (fun w' => w'.cell? ⟨gv, y, none⟩ = some (.int .i64 (li : Nat)) ∧ w'.cell? ⟨gv, x, none⟩ = some (.int .i64 (lj : Nat))) (go_keep) (first | (go_at_call 36; refine HWY2.out.mono ?_; rintro e w5 ⟨v5, rfl, ci, cj, H7⟩))
    all_goals
      go_wp2_with (go_at_call 38; refine H7.out.mono ?_; rintro e w6 ⟨rfl, h8⟩; have H8 := hide h8; clear h8)
      go_ret
      exact ⟨rfl, H8.out⟩
  · have g1 : ¬ (y : Int) < (x : Int) := by omega
    have hij : x ≤ y := by omega
    have hj : y < L.length := by omega
    have hi : x < L.length := by omega
    obtain ⟨dx, hdx, hMx⟩ := part_ok HWO.out HWAY.out.1 HPQ.out.1 HWAY.out.2 hij hj
    have ci := H6.out.2.1 x hi
    have cj := H6.out.2.1 y hj
    have hLi := HWAY.out.1.all L[x]! (by rw [getElem!_pos L x hi]; exact List.getElem_mem _)
    have hLj := HWAY.out.1.all L[y]! (by rw [getElem!_pos L y hj]; exact List.getElem_mem _)
    have HMX : Hid (weighZ n W (natsI ((L.drop x).take (y + 1 - x))) = dx ∧ (natsI ((L.drop x).take (y + 1 - x))).length = y + 1 - x ∧ ∀ k, k < y + 1 - x → (natsI ((L.drop x).take (y + 1 - x)))[k]! = ((L[x + k]! : Nat) : Int)) := by
      have hl : (natsI ((L.drop x).take (y + 1 - x))).length = y + 1 - x := by rw [natsI_len, List.length_take, List.length_drop]; omega
      refine ⟨weigh_way HWO.out hMx, hl, fun k hk => ?_⟩
      rw [getElem!_pos _ k (by rw [hl]; exact hk), getElem!_pos L (x + k) (by omega)]
      simp [natsI]
    have HWY2 : Hid (Calls Try.prog 36 #[.pointer (some ⟨g, 0, none⟩), .int .i64 (L[x]! : Nat), .int .i64 (L[y]! : Nat)] W4.drew fun e w' => ∃ v, e = .returned (.tuple #[v, .int .i64 dx]) ∧ w'.cell? ⟨gv, x, none⟩ = some (.int .i64 (L[x]! : Nat)) ∧ w'.cell? ⟨gv, y, none⟩ = some (.int .i64 (L[y]! : Nat)) ∧ Hid (Calls Try.prog 38 #[.pointer (some ⟨g, 0, none⟩), .slice (some ⟨gv, x, none⟩) (y + 1 - x) (cv' - x)] w' (fun e w'' => e = .returned (.int .i64 dx) ∧ Below w.heap.size w w''))) := by
      have f0 : Below W4.heap.size W4 W4.drew := (Below.refl W4.heap.size W4).drew
      have G0 := H6.out.1.later f0
      refine (way_any G0.gr HN.out HWO.out L[x]! L[y]! hLi hLj).mono ?_
      rintro e w5 ⟨h1, D, h2, h3⟩
      have hDe : D L[y]! = least n W L[x]! L[y]! := h2.eq (least_is HWO.out _ hLi) _ hLj
      have G1 := G0.later h1
      have hcell : ∀ k, k < L.length → w5.cell? ⟨gv, k, none⟩ = some (.int .i64 (L[k]! : Nat)) := fun k hk => ((f0.trans h1).cell (p := ⟨gv, k, none⟩) H6.out.2.2).trans (H6.out.2.1 k hk)
      rw [hDe, hdx] at h3
      rcases h3 with ⟨a1, a2⟩ | ⟨d, v, L', a1, a2, a3, a4⟩
      · cases a1
      · cases a1
        refine ⟨_, a2, hcell _ hi, hcell _ hj, ?_⟩
        have hz : IntsAt w5 (some ⟨gv, x, none⟩) (natsI ((L.drop x).take (y + 1 - x))) := fun k hk => by
          rw [HMX.out.2.1] at hk
          refine ⟨gv, x, rfl, ?_⟩
          rw [HMX.out.2.2 k hk]
          exact hcell _ (by omega)
        have := weighS_any (vc := cv' - x) G1.gr HN.out HWO.out hz (by rw [HMX.out.2.1]; omega) (by rw [HMX.out.2.1]; omega)
        rw [HMX.out.2.1, HMX.out.1] at this
        exact this.mono fun e w6 h => ⟨h.1, (G1.later h.2).rin.below⟩
    have x1 : (x : Int) < (L.length : Int) := by omega
    have x2 : (y : Int) < (L.length : Int) := by omega
    have x3 : (x : Int) ≤ (y : Int) + 1 := by omega
    have x4 : (y : Int) + 1 ≤ (cv' : Int) := by omega
    have x5 : ((y : Int) + 1).toNat = y + 1 := by omega
    have x6 : ¬ cv' = x := by omega
    have x7 : ¬ cv' - x = 0 := by omega
    have z1 : (dx == dx) = true := by simp
    clear hdx hMx hLi hLj H6 HWY H3 H3D HMX
    obtain ⟨li, hli⟩ : ∃ l, L[x]! = l := ⟨_, rfl⟩
    obtain ⟨lj, hlj⟩ : ∃ l, L[y]! = l := ⟨_, rfl⟩
    rw [hli] at ci HWY2
    rw [hlj] at cj HWY2
    clear hli hlj
    go_wp2
    go_region_held (fun w' => w'.cell? ⟨gv, x, none⟩ = some (.int .i64 (li : Nat)) ∧ w'.cell? ⟨gv, y, none⟩ = some (.int .i64 (lj : Nat))) (go_keep) (first | (go_at_call 36; refine HWY2.out.mono ?_; rintro e w5 ⟨v5, rfl, ci, cj, H7⟩))
    all_goals
      go_wp2_with (go_at_call 38; refine H7.out.mono ?_; rintro e w6 ⟨rfl, h8⟩; have H8 := hide h8; clear h8)
      go_ret
      exact ⟨rfl, H8.out⟩
theorem parts_any (n : Int) (a : Option Addr) (m c : Nat) (A : List Arc) (p0 q0 i0 j0 : Int) (w : World) (h : ArcsAt w a m A) (hc : a = none → c = 0) :
    Calls Try.prog 14 #[.agg #[.int .i64 n, .slice a m c], .int .i64 p0, .int .i64 q0, .int .i64 i0, .int .i64 j0] w fun e w' => e = .returned (.bool true) ∧ Below w.heap.size w w' := by
  by_cases hm : 300 < m
  · exact parts_bad n a m c A p0 q0 i0 j0 w h hc (.inl hm)
  · by_cases he : (checkM n A).2 = 0
    · obtain ⟨hn, _⟩ := checkM_ok he
      obtain ⟨k, rfl⟩ : ∃ k : Nat, n = (k : Int) := ⟨n.toNat, by omega⟩
      exact parts_good k a m c A p0 q0 i0 j0 w h hc (by omega) he
    · exact parts_bad n a m c A p0 q0 i0 j0 w h hc (.inr ⟨by omega, he⟩)
end Go.Proofs.Ytkgpjhechopfhaa
