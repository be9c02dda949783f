/-
  What the law RoadLightest does.
-/
import Derived.Test.YtojkdmkeankcgaaLightP
import Derived.Test.YtojkdmkeankcgaaMoreL
import Derived.Deep.RegionLawGrows
namespace Go.Proofs.Ytojkdmkeankcgaa
open Go.RowKit Go.Sort

theorem umodL (x : Int) (n : Nat) (hn : 0 < n) : ∃ u p : Nat, IntKind.u64.wrap x = (u : Int) ∧ Int.tmod (u : Int) (n : Int) = (p : Int) ∧ (u : Int) % (n : Int) = (p : Int) ∧ p < n := by
  obtain ⟨u, hu⟩ : ∃ u : Nat, IntKind.u64.wrap x = (u : Int) := ⟨(IntKind.u64.wrap x).toNat, by have := wrap_u64_nonneg x; omega⟩
  exact ⟨u, u % n, hu, rfl, rfl, Nat.mod_lt _ hn⟩
/-- The road's box, the graph of its arcs, and the box of one arc. -/
structure LX (B : Nat) (w : World) (n : Nat) (a : Option Addr) (m c : Nat) (A : List Arc) (g : Nat) (W : Nat → Nat → Option Int) (bA : Nat) (x1 x2 x3 x4 : Int) (wr : World) : Prop where
  rin : RIn B w n a m c A wr
  gr : GAt wr g n W
  box : wr.heap[bA]? = some (.cells #[.int .i64 x1, .int .i64 x2, .int .i64 x3, .int .i64 x4] 33 (0, 0))
section
variable {B n m c g bA : Nat} {w wr w' : World} {a : Option Addr} {A : List Arc} {W : Nat → Nat → Option Int} {x1 x2 x3 x4 : Int}
theorem LX.later (h : LX B w n a m c A g W bA x1 x2 x3 x4 wr) (f : Below wr.heap.size wr w') : LX B w n a m c A g W bA x1 x2 x3 x4 w' := ⟨h.rin.later f, h.gr.later f, (f.block _ (Array.getElem?_eq_some_iff.1 h.box).1).trans h.box⟩
theorem LX.cx (h : LX B w n a m c A g W bA x1 x2 x3 x4 wr) : wr.cell? ⟨bA, 0, none⟩ = some (.int .i64 x1) ∧ wr.cell? ⟨bA, 1, none⟩ = some (.int .i64 x2) ∧ wr.cell? ⟨bA, 2, none⟩ = some (.int .i64 x3) ∧ wr.cell? ⟨bA, 3, none⟩ = some (.int .i64 x4) :=
  ⟨by rw [cell_of_row _ bA 0 _ _ _ h.box]; rfl, by rw [cell_of_row _ bA 1 _ _ _ h.box]; rfl, by rw [cell_of_row _ bA 2 _ _ _ h.box]; rfl, by rw [cell_of_row _ bA 3 _ _ _ h.box]; rfl⟩
theorem lx_start (hr : RIn B w n a m c A wr) (hg : GAt wr g n W) : LX B w n a m c A g W wr.heap.size x1 x2 x3 x4 (wr.alloc (.cells #[.int .i64 x1, .int .i64 x2, .int .i64 x3, .int .i64 x4] 33)).drew := by
  have f : Below wr.heap.size wr (wr.alloc (.cells #[.int .i64 x1, .int .i64 x2, .int .i64 x3, .int .i64 x4] 33)).drew := ((Below.refl _ _).alloc (Nat.le_refl _) _).drew
  exact ⟨hr.later f, hg.later f, heap_alloc_new wr _⟩
end
theorem two_arcs (w : World) (x1 x2 x3 x4 y1 y2 y3 y4 : Int) : ArcsAt (w.alloc (.cells #[.int .i64 x1, .int .i64 x2, .int .i64 x3, .int .i64 x4, .int .i64 y1, .int .i64 y2, .int .i64 y3, .int .i64 y4] 33)) (some ⟨w.heap.size, 0, none⟩) 2 [(x1, x2, x3, x4), (y1, y2, y3, y4)] := by
  have h := heap_alloc_new w (.cells #[.int .i64 x1, .int .i64 x2, .int .i64 x3, .int .i64 x4, .int .i64 y1, .int .i64 y2, .int .i64 y3, .int .i64 y4] 33)
  refine ⟨rfl, by omega, fun k hk => ⟨w.heap.size, 0, rfl, ?_⟩⟩
  match k, hk with
  | 0, _ => exact ⟨by rw [cell_of_row _ _ _ _ _ _ h]; rfl, by rw [cell_of_row _ _ _ _ _ _ h]; rfl, by rw [cell_of_row _ _ _ _ _ _ h]; rfl, by rw [cell_of_row _ _ _ _ _ _ h]; rfl⟩
  | 1, _ => exact ⟨by rw [cell_of_row _ _ _ _ _ _ h]; rfl, by rw [cell_of_row _ _ _ _ _ _ h]; rfl, by rw [cell_of_row _ _ _ _ _ _ h]; rfl, by rw [cell_of_row _ _ _ _ _ _ h]; rfl⟩
theorem arcs_prefix {w : World} {a : Option Addr} {m k : Nat} {A Z : List Arc} (h : ArcsAt w a (m + k) (A ++ Z)) (hl : A.length = m) : ArcsAt w a m A := by
  refine ⟨hl, by have := h.max; omega, fun j hj => ?_⟩
  obtain ⟨b, off, e, h0, h1, h2, h3⟩ := h.cell j (by omega)
  have : (A ++ Z)[j]! = A[j]! := by rw [getElem!_pos (A ++ Z) j (by simp; omega), getElem!_pos A j (by omega), List.getElem_append_left]
  rw [this] at h0 h1 h2 h3
  exact ⟨b, off, e, h0, h1, h2, h3⟩
/-- Behind an append of arcs that were just laid, stored back into the box. -/
theorem light_box {w3 w6 : World} {B3 m vc c6 k : Nat} {n : Int} {va a6 : Option Addr} {A Z : List Arc} {o : Obj}
    (hown0 : w3.ownsRow B3 33 4 (.slice va m vc) m (flatA A)) (hlen : A.length = m) (hk : Z.length = k)
    (hown : w6.ownsRow B3 33 4 (.slice a6 (m + k) c6) (m + k) (flatA (A ++ Z)))
    (hg : ((w3.alloc (.cells #[.int .i64 n, .slice va m vc] 24)).alloc o).grownBy w6 (Value.slice va m vc).ownBlock) (hB : B3 ≤ w3.heap.size) :
    w6.heap[w3.heap.size]? = some (.cells #[.int .i64 n, .slice va m vc] 24 (0, 0)) ∧ ArcsAt (w6.setCell ⟨w3.heap.size, 1, none⟩ (.slice a6 (m + k) c6)) a6 (m + k) (A ++ Z) ∧ Below B3 w3 (w6.setCell ⟨w3.heap.size, 1, none⟩ (.slice a6 (m + k) c6)) ∧ (w6.setCell ⟨w3.heap.size, 1, none⟩ (.slice a6 (m + k) c6)).heap[w3.heap.size]? = some (.cells #[.int .i64 n, .slice a6 (m + k) c6] 24 (0, 0)) := by
  have hT : ((w3.alloc (.cells #[.int .i64 n, .slice va m vc] 24)).alloc o).heap[w3.heap.size]? = some (.cells #[.int .i64 n, .slice va m vc] 24 (0, 0)) := by
    rw [Below.heap_alloc _ _ _ (by simp)]; exact heap_alloc_new _ _
  have h6 : w6.heap[w3.heap.size]? = some (.cells #[.int .i64 n, .slice va m vc] 24 (0, 0)) := by
    rw [hg.block w3.heap.size (by simp; omega) (fun e => by have := (hown0.lt _ e.symm).2; omega)]
    exact hT
  have hown' : (w6.setCell ⟨w3.heap.size, 1, none⟩ (.slice a6 (m + k) c6)).ownsRow B3 33 4 (.slice a6 (m + k) c6) (m + k) (flatA (A ++ Z)) := own_of_block hown fun q hq => heap_setCell_other _ _ _ _ fun e => by
    obtain ⟨cur, hc⟩ := own_tag hown hq
    rw [show q = w3.heap.size from e, h6] at hc
    simp at hc
  obtain ⟨a', c', e, hA⟩ := own_arcs hown' (by simp [hlen, hk])
  injection e with e1 e2 e3
  subst e1 e3
  have f2 : Below B3 w3 ((w3.alloc (.cells #[.int .i64 n, .slice va m vc] 24)).alloc o) := below_two (Below.refl _ _) hB _ _
  refine ⟨h6, hA, (f2.grown hg (by simp; omega) fun q hq => (hown0.lt q hq).1).setCell hB _, ?_⟩
  have := heap_setCell_same w6 w3.heap.size 1 _ _ (.slice a6 (m + k) c6) h6
  exact this
set_option maxRecDepth 100000
set_option maxHeartbeats 12800000
theorem light_bad (n : Int) (a : Option Addr) (m c : Nat) (A : List Arc) (i0 j0 : Int) (w : World) (h : ArcsAt w a m A) (hc : a = none → c = 0) (hz : m * 32 ≤ 140737488355328) (hb : (checkM n A).2 ≠ 0) :
    Calls Try.prog 3 #[.agg #[.int .i64 n, .slice a m c], .int .i64 i0, .int .i64 j0] w fun e w' => e = .returned (.bool true) ∧ Below w.heap.size w w' := by
  have HS := hide (rin_start w n a m c A h)
  have hlen := h.len
  have HC := hide hc
  have HZ := hide hz
  have HLEN := hide hlen
  have HBD := hide hb
  have hbx : ((checkM n A).2 != 0) = true := by simpa using hb
  clear h hc hz hlen hb
  generalize hk : (checkM n A).2 = ce at hbx
  replace hk := hide hk
  go_enter Try.func3, Try.ntmps3
  go_wp2_with (first
    | (go_at_call 7; refine (awake_any _).mono ?_; rintro e w1 ⟨rfl, h1⟩; have H1 := hide (HS.out.later h1); have c0 := H1.out.c0; have c1 := H1.out.c1; clear h1)
    | (go_at_call 9; refine (copied_any n a m c A _ H1.out.arcs HC.out HZ.out).mono ?_; rintro e w3 ⟨v3, rfl, h3, h4⟩; obtain ⟨va, vc, rfl, h5⟩ := own_arcs h3 HLEN.out; have H3 := hide (And.intro (H1.out.later h4) h5); clear h3 h4 h5)
    | (go_at_call 8; refine (new_bad n va m vc A _ _ H3.out.2 HBD.out).mono ?_; rw [hk.out]; rintro e w4 ⟨rfl, h4⟩; have H4 := hide (H3.out.1.later h4); clear h4))
  go_ret
  exact ⟨rfl, H4.out.below⟩
theorem light_out (n : Nat) (a : Option Addr) (m c : Nat) (A : List Arc) (i0 j0 : Int) (w : World) (h : ArcsAt w a m A) (hc : a = none → c = 0) (he : (checkM (n : Int) A).2 = 0) (hb : m < 1 ∨ 254 < m) :
    Calls Try.prog 3 #[.agg #[.int .i64 n, .slice a m c], .int .i64 i0, .int .i64 j0] w fun e w' => e = .returned (.bool true) ∧ Below w.heap.size w w' := by
  have HS := hide (rin_start w n a m c A h)
  have hlen := h.len
  have hm : m ≤ 256 := by have := (checkM_ok he).2.1; omega
  have HC := hide hc
  have HLEN := hide hlen
  have HZ : Hid (m * 32 ≤ 140737488355328) := by show _ ≤ _; omega
  have HE := hide he
  clear h hc hlen he
  go_enter Try.func3, Try.ntmps3
  rcases hb with hb | hb
  · have b1 : (m : Int) < 1 := by omega
    go_wp2_with (first
      | (go_at_call 7; refine (awake_any _).mono ?_; rintro e w1 ⟨rfl, h1⟩; have H1 := hide (HS.out.later h1); have c0 := H1.out.c0; have c1 := H1.out.c1; clear h1)
      | (go_at_call 9; refine (copied_any n a m c A _ H1.out.arcs HC.out HZ.out).mono ?_; rintro e w3 ⟨v3, rfl, h3, h4⟩; obtain ⟨va, vc, rfl, h5⟩ := own_arcs h3 HLEN.out; have H3 := hide (And.intro (H1.out.later h4) h5); clear h3 h4 h5)
      | (go_at_call 8; refine (new_good n va m vc A 10 timeM _ H3.out.2 HE.out (time_any A) enters22).mono ?_; rintro e w4 ⟨g, rfl, _, h4, _⟩; have H4 := hide (H3.out.1.later h4); have d0 := H4.out.c0; have d1 := H4.out.c1; clear h4))
    go_ret
    exact ⟨rfl, H4.out.below⟩
  · have b1 : (254 : Int) < (m : Int) := by omega
    have b2 : ¬ (m : Int) < 1 := by omega
    go_wp2_with (first
      | (go_at_call 7; refine (awake_any _).mono ?_; rintro e w1 ⟨rfl, h1⟩; have H1 := hide (HS.out.later h1); have c0 := H1.out.c0; have c1 := H1.out.c1; clear h1)
      | (go_at_call 9; refine (copied_any n a m c A _ H1.out.arcs HC.out HZ.out).mono ?_; rintro e w3 ⟨v3, rfl, h3, h4⟩; obtain ⟨va, vc, rfl, h5⟩ := own_arcs h3 HLEN.out; have H3 := hide (And.intro (H1.out.later h4) h5); clear h3 h4 h5)
      | (go_at_call 8; refine (new_good n va m vc A 10 timeM _ H3.out.2 HE.out (time_any A) enters22).mono ?_; rintro e w4 ⟨g, rfl, _, h4, _⟩; have H4 := hide (H3.out.1.later h4); have d0 := H4.out.c0; have d1 := H4.out.c1; clear h4))
    go_ret
    exact ⟨rfl, H4.out.below⟩
theorem light_good (n : Nat) (a : Option Addr) (m c : Nat) (A : List Arc) (i0 j0 : Int) (w : World) (h : ArcsAt w a m A) (hc : a = none → c = 0) (he : (checkM (n : Int) A).2 = 0) (hm : 1 ≤ m ∧ m ≤ 254) :
    Calls Try.prog 3 #[.agg #[.int .i64 n, .slice a m c], .int .i64 i0, .int .i64 j0] w fun e w' => e = .returned (.bool true) ∧ Below w.heap.size w w' := by
  have HS := hide (rin_start w n a m c A h)
  have hlen := h.len
  have HC := hide hc
  have HLEN := hide hlen
  have HZ : Hid (m * 32 ≤ 140737488355328) := by show _ ≤ _; omega
  have HE := hide he
  have hmm := hm
  have HM := hide hm
  clear h hc hlen he
  obtain ⟨u, j, hu, htu, htu2, hj⟩ := umodL i0 m (by omega)
  obtain ⟨u2, k, hu2, htk, htk2, hk⟩ := umodL j0 9 (by omega)
  obtain ⟨x1, x2, x3, x4, hxe⟩ : ∃ x1 x2 x3 x4, A[j]! = (x1, x2, x3, x4) := ⟨_, _, _, _, rfl⟩
  have HXE := hide hxe
  have HXM : Hid ((x1, x2, x3, x4) ∈ A) := by rw [← hxe]; rw [getElem!_pos A j (by rw [HLEN.out]; exact hj)]; exact List.getElem_mem _
  have wn : IntKind.u64.wrap (m : Int) = (m : Int) := by rw [IntKind.wrap_u64]; omega
  have wj : IntKind.i64.wrap (j : Int) = (j : Int) := by rw [IntKind.wrap_i64]; omega
  have wk : IntKind.i64.wrap (k : Int) = (k : Int) := by rw [IntKind.wrap_i64]; omega
  have b1 : ¬ (m : Int) < 1 := by omega
  have b2 : ¬ (254 : Int) < (m : Int) := by omega
  have nz2 : ¬ (m : Int) = 0 := by omega
  have nz3 : ¬ m = 0 := by omega
  have j1 : (j : Int) < (m : Int) := by omega
  clear hxe
  go_enter Try.func3, Try.ntmps3
  go_wp2_with (first
    | (go_at_call 7; refine (awake_any _).mono ?_; rintro e w1 ⟨rfl, h1⟩; have H1 := hide (HS.out.later h1); have c0 := H1.out.c0; have c1 := H1.out.c1; clear h1)
    | (go_at_call 9; refine (copied_any n a m c A _ H1.out.arcs HC.out HZ.out).mono ?_; rintro e w3 ⟨v3, rfl, h3, h4⟩; obtain ⟨va, vc, rfl, h5⟩ := own_arcs h3 HLEN.out; have H3 := hide (And.intro (H1.out.later h4) h5); clear h3 h4 h5)
    | (go_at_call 8; refine (new_good n va m vc A 10 timeM _ H3.out.2 HE.out (time_any A) enters22).mono ?_; rintro e w4 ⟨g, rfl, h5, h4, _⟩; have H4 := hide (And.intro (H3.out.1.later h4) h5); have d0 := H4.out.1.c0; have d1 := H4.out.1.c1; clear h4 h5))
  have hAj := H4.out.1.arcs.cell j hj
  rw [HXE.out] at hAj
  obtain ⟨b, off, hab, e0, e1, e2, e3⟩ := hAj
  simp only at e0 e1 e2 e3
  subst hab
  clear c0 c1 H1 H3 HS
  go_region_held3 (fun w' => w'.cell? ⟨w.heap.size, 1, none⟩ = some (.slice (some ⟨b, off, none⟩) m c) ∧ w'.cell? ⟨b, off + j * 4, none⟩ = some (.int .i64 x1) ∧ w'.cell? ⟨b, off + j * 4 + 1, none⟩ = some (.int .i64 x2) ∧ w'.cell? ⟨b, off + j * 4 + 2, none⟩ = some (.int .i64 x3) ∧ w'.cell? ⟨b, off + j * 4 + 3, none⟩ = some (.int .i64 x4)) (go_keep) (first | fail)
  rename_i hHeld
  clear hHeld e0 e1 e2 e3 d0 d1
  have HL := hide (lx_start (x1 := x1) (x2 := x2) (x3 := x3) (x4 := x4) H4.out.1 H4.out.2)
  obtain ⟨bA, hbA⟩ : ∃ bA, w4.heap.size = bA := ⟨_, rfl⟩
  rw [hbA] at HL
  try rw [hbA]
  generalize (w4.alloc (.cells #[.int .i64 x1, .int .i64 x2, .int .i64 x3, .int .i64 x4] 33)).drew = W5 at HL ⊢
  clear H4 hbA hu htu htu2 wn wj nz2 nz3
  have htk' : Int.tmod (u2 : Int) 9 = (k : Int) := htk
  have htk2' : (u2 : Int) % 9 = (k : Int) := htk2
  clear htk htk2
  have c0 := HL.out.rin.c0
  have c1 := HL.out.rin.c1
  have hk9 : k < 9 := hk
  have HNUM : Hid (0 ≤ x3 ∧ x3 ≤ 1000000) := by
    have := ((checkM_ok HE.out).2.2 _ HXM.out).2
    unfold numOk at this
    have := of_decide_eq_true this
    exact ⟨this.1, this.2.1⟩
  have wxk : IntKind.i64.wrap (x3 + (k : Int)) = x3 + (k : Int) := by have := HNUM.out; rw [IntKind.wrap_i64]; omega
  obtain ⟨i0', hi0, hy0, hy1, hy2⟩ := info_parts info50
  have HI := hide (And.intro hi0 (And.intro hy0 (And.intro hy1 hy2)))
  clear hi0 hy0 hy1 hy2
  obtain ⟨hn, _⟩ := checkM_ok HE.out
  have hn' : 1 ≤ n ∧ n ≤ 32 := by omega
  have HN := hide hn'
  clear hn hn'
  have HP : Hid (∀ p q v, tab (legsM timeM A) p q = some v → 0 ≤ v) := fun p q v h => (tab_pos (mt_pos HE.out false) p q v h).1
  have HK1 : Hid ((checkM (n : Int) (A ++ [(x1, x2, (min (x3 + (k : Int)) 1000000), 0), (x1, x1, 0, 0)])).2 = 0) := by
    have h2 := HNUM.out
    exact light_check1 (x := (x1, x2, x3, x4)) HE.out HXM.out (by have := HM.out; rw [HLEN.out]; omega) (by omega)
  have HT1 : Hid (tab (legsM timeM (A ++ [(x1, x2, (min (x3 + (k : Int)) 1000000), 0), (x1, x1, 0, 0)])) = tab (legsM timeM A)) := by
    have h2 := HNUM.out
    exact light_twin (x := (x1, x2, x3, x4)) HXM.out (tm := (min (x3 + (k : Int)) 1000000)) (by show x3 ≤ _; omega)
  have HNG := hide (fun (a7 : Option Addr) (c7 : Nat) (w' : World) (h' : ArcsAt w' a7 (m + 2) (A ++ [(x1, x2, (min (x3 + (k : Int)) 1000000), 0), (x1, x1, 0, 0)])) => new_good n a7 (m + 2) c7 _ 10 timeM w' h' HK1.out (time_any _) enters22)
  rw [HT1.out] at HNG
  have HTB := hide (fun (w' : World) (h' : ArcsAt w' (some ⟨b, off, none⟩) m A) => table_any n HN.out (some ⟨b, off, none⟩) m c A false w' h' (by have := HM.out; omega) (fun x hx => ((checkM_ok HE.out).2.2 x hx).1) (fun x hx => (mt_pos HE.out false x hx).1))
  have HSM := hide (fun (w' : World) (q base : Nat) (v : Value) (hg : GAt w' q n (tab (legsM timeM A))) (ht : IRow w' base v (cellsM n (tab (legsM timeM A)))) => sameG_any hg HN.out (fun p q x _ _ hx => HP.out p q x hx) ht)
  have HLN := hide (fun (w' : World) (q : Nat) (hg : GAt w' q n (tab (legsM timeM A))) => len_any hg HN.out)
  have HWT : Hid (∀ x, x1 ≠ x2 → wt n (tab (legsM timeM (A ++ [(x1, x2, 0, x)]))) x1 x2 = wt n (tab (legsM timeM (A ++ [(x1, x2, 0, x)]))) x1 x2) := fun _ _ => rfl
  clear HWT
  have HSL : Hid (sumLen n (tab (legsM timeM (A ++ [(x1, x2, 0, 0)]))) n = sumLen n (tab (legsM timeM A)) n) := sumLen_same n (light_some (x := (x1, x2, x3, x4)) HXM.out) n
  have HK2 : Hid ((checkM (n : Int) (A ++ [(x1, x2, 0, 0)])).2 = 0) := light_check2 (x := (x1, x2, x3, x4)) HE.out HXM.out (by have := HM.out; rw [HLEN.out]; omega)
  have HW2 : Hid (x1 ≠ x2 → wt n (tab (legsM timeM (A ++ [(x1, x2, 0, 0)]))) x1 x2 = 0) := fun e => light_wt (x := (x1, x2, x3, x4)) HE.out HXM.out HP.out e
  have HNG2 := hide (fun (a7 : Option Addr) (c7 : Nat) (w' : World) (h' : ArcsAt w' a7 (m + 1) (A ++ [(x1, x2, 0, 0)])) => new_good n a7 (m + 1) c7 _ 10 timeM w' h' HK2.out (time_any _) enters22)
  generalize tab (legsM timeM (A ++ [(x1, x2, 0, 0)])) = V at HSL HW2 HNG2
  have hmt : mtM false = timeM := rfl
  rw [hmt] at HTB
  clear hmt
  generalize tab (legsM timeM A) = W at HL HNG HTB HSM HLN HSL HP HT1
  clear HT1 HK1 HK2
  have HLD := hide (load24b)
  go_wp2_with (first
    | (go_at_call 9; refine (copied_any n _ m c A _ HL.out.rin.arcs HC.out HZ.out).mono ?_; rintro e w6 ⟨v6, rfl, h3, h4⟩; obtain ⟨va6, vc6, rfl, _⟩ := own_arcs h3 HLEN.out; have H6 := hide (And.intro h3 h4); obtain ⟨x0', x1', x2', x3'⟩ := (HL.out.later (h4.alloc h4.size (.cells #[.int .i64 n, .slice va6 m vc6] 24))).cx; have HOW : Hid (((w6.alloc (.cells #[.int .i64 n, .slice va6 m vc6] 24)).alloc (.cells #[.int .i64 x1, .int .i64 x2, .int .i64 (min (x3 + (k : Int)) 1000000), .int .i64 0, .int .i64 x1, .int .i64 x1, .int .i64 0, .int .i64 0] 33)).ownsRow W5.heap.size 33 4 (.slice va6 m vc6) m (flatA A)) := World.ownsRow.alloc (World.ownsRow.alloc h3 _) _; have HNW := hide (two_arcs (w6.alloc (.cells #[.int .i64 n, .slice va6 m vc6] 24)) x1 x2 (min (x3 + (k : Int)) 1000000) 0 x1 x1 0 0); rw [size_alloc7] at HNW; have HB3 : Hid (W5.heap.size ≤ ((w6.alloc (.cells #[.int .i64 n, .slice va6 m vc6] 24)).alloc (.cells #[.int .i64 x1, .int .i64 x2, .int .i64 (min (x3 + (k : Int)) 1000000), .int .i64 0, .int .i64 x1, .int .i64 x1, .int .i64 0, .int .i64 0] 33)).heap.size) := (by have := h4.size; show _ ≤ _; simp; omega); clear h3 h4)
    | (at_builtin; refine app_arcs (.tmp 55) (.tmp 71) i0' HI.out.1 HI.out.2.1 HI.out.2.2.1 HI.out.2.2.2 rfl rfl W5.heap.size (.slice va6 m vc6) m A rfl HOW.out (some ⟨w6.heap.size + 1, 0, none⟩) 2 2 [(x1, x2, (min (x3 + (k : Int)) 1000000), 0), (x1, x1, 0, 0)] rfl HNW.out (fun e => by cases e) (by have := HM.out; omega) HB3.out ?_))
  intro v7 w7 hown7 hgrow7
  obtain ⟨a7, c7, rfl, _⟩ := own_arcs hown7 (by rw [List.length_append, HLEN.out]; rfl)
  have HCAP : Hid (∃ g7, a7 = some ⟨g7, 0, none⟩ ∧ m + 2 ≤ c7) := by
    rcases hown7.2 with ⟨e, _⟩ | ⟨g7, cap, cur, e, _, _, h1, _⟩
    · injection e with e1 e2 e3; omega
    · injection e with e1 e2 e3
      subst e3
      exact ⟨g7, e1, h1⟩
  have H7 := hide (light_box (n := n) H6.out.1 HLEN.out rfl hown7 hgrow7 H6.out.2.size)
  have y0 := cell_of_row w7 w6.heap.size 0 _ _ _ H7.out.1
  have y1 := cell_of_row w7 w6.heap.size 1 _ _ _ H7.out.1
  have yf := frozen_of_row w7 w6.heap.size 1 _ _ H7.out.1
  simp only [List.getElem?_toArray, List.getElem?_cons_succ, List.getElem?_cons_zero] at y0 y1
  have HF7 : Hid (Below W5.heap.size W5 (w7.setCell ⟨w6.heap.size, 1, none⟩ (.slice a7 (m + 2) c7))) := H6.out.2.trans H7.out.2.2.1
  clear hown7 hgrow7 HOW HNW HB3 x0' x1' x2' x3' c0 c1
  go_wp2_with (first
    | (go_at_call 8; refine (HNG.out a7 c7 _ H7.out.2.1).mono ?_; rintro e w8 ⟨gh, rfl, h1, h2, _⟩; have hF := HF7.out.trans (h2.mono HF7.out.size); have hbx := (h2.block _ (Array.getElem?_eq_some_iff.1 H7.out.2.2.2).1).trans H7.out.2.2.2; have H8 := hide (And.intro hF (And.intro hbx (And.intro (H7.out.2.1.later (Nat.le_refl _) h2) h1))); have gg := (HL.out.later hF).gr; have c0 := (HL.out.later hF).rin.c0; have c1 := (HL.out.later hF).rin.c1; clear h2 hF hbx)
    | (go_at_call 11; refine (HLN.out _ _ (by assumption)).mono ?_; rintro e _ ⟨rfl, rfl⟩)
    | (go_at_call 13; refine (HTB.out _ (HL.out.later H8.out.1).rin.arcs).mono ?_; rintro e w9 ⟨v9, rfl, h3, h4⟩; have H9 := hide (And.intro h3 h4); clear h3 h4)
    | (go_at_call 12; refine (HSM.out _ _ _ _ (H8.out.2.2.2.later H9.out.2) H9.out.1).mono ?_; rintro e w10 ⟨rfl, h5⟩; have H10 := hide (H9.out.2.trans (h5.mono H9.out.2.size)); clear h5))
  have HF10 : Hid (Below W5.heap.size W5 w10) := H8.out.1.trans (H10.out.mono H8.out.1.size)
  have hbx10 : w10.heap[w6.heap.size]? = some (.cells #[.int .i64 n, .slice a7 (m + 2) c7] 24 (0, 0)) := (H10.out.block _ (Array.getElem?_eq_some_iff.1 H8.out.2.1).1).trans H8.out.2.1
  have harc10 : ArcsAt w10 a7 m A := arcs_prefix (H8.out.2.2.1.later (Nat.le_refl _) H10.out) HLEN.out
  obtain ⟨g7, hg7, hc7⟩ := HCAP.out
  subst hg7
  have hbT : W5.heap.size ≤ w6.heap.size := H6.out.2.size
  obtain ⟨bT, hbTe⟩ : ∃ bT, w6.heap.size = bT := ⟨_, rfl⟩
  rw [hbTe] at hbx10 hbT
  try rw [hbTe]
  have HX10 := hide (And.intro (HL.out.later HF10.out) (And.intro hbx10 (And.intro harc10 hbT)))
  clear hbx10 harc10 hbT hbTe H8 H7 H9 H10 HF7 H6 HCAP c0 c1 gg y0 y1 yf HNG HTB HSM
  have hbTl : bT < w10.heap.size := (Array.getElem?_eq_some_iff.1 HX10.out.2.1).1
  have s1 := cell_of_row w10 bT 1 _ _ _ HX10.out.2.1
  have s0 := cell_of_row w10 bT 0 _ _ _ HX10.out.2.1
  simp only [List.getElem?_toArray, List.getElem?_cons_succ, List.getElem?_cons_zero] at s0 s1
  have s2 := HX10.out.1.rin.c1
  obtain ⟨s3, s4, _, _⟩ := HX10.out.1.cx
  have HNW : Hid (∀ j u, [Value.int .i64 x1, .int .i64 x2, .int .i64 0, .int .i64 0][j]? = some u → (w10.alloc (.cells #[.int .i64 x1, .int .i64 x2, .int .i64 0, .int .i64 0] 33)).drew.cell? ((⟨w10.heap.size, 0, none⟩ : Addr).add j) = some u) := arcs_news (one_arc w10 (x1, x2, 0, 0))
  have HOL : Hid (∀ b', some (⟨g7, 0, none⟩ : Addr) = some b' → ∀ j u, (flatA A)[j]? = some u → (w10.alloc (.cells #[.int .i64 x1, .int .i64 x2, .int .i64 0, .int .i64 0] 33)).drew.cell? (b'.add j) = some u) := fun b' e j u hu => by
    cases e
    exact arcs_news (HX10.out.2.2.1.later (Nat.le_refl _) (((Below.refl _ _).alloc (Nat.le_refl _) (.cells #[.int .i64 x1, .int .i64 x2, .int .i64 0, .int .i64 0] 33)).drew)) j u hu
  have HFA : Hid ((flatA A).length = m * 4) := by show _ = _; rw [flatA_len, HLEN.out]
  have HFE : Hid (flatA A ++ [Value.int .i64 x1, .int .i64 x2, .int .i64 0, .int .i64 0] = flatA (A ++ [(x1, x2, 0, 0)])) := by
    show _ = _
    unfold flatA
    rw [List.flatMap_append]
    rfl
  have HAF : Hid (∀ v w', w'.ownsRow (w10.alloc (.cells #[.int .i64 x1, .int .i64 x2, .int .i64 0, .int .i64 0] 33)).drew.heap.size 33 4 v (m + 1) (flatA A ++ [Value.int .i64 x1, .int .i64 x2, .int .i64 0, .int .i64 0]) → (w10.alloc (.cells #[.int .i64 x1, .int .i64 x2, .int .i64 0, .int .i64 0] 33)).drew.grownBy w' none → ∃ a' c', v = .slice a' (m + 1) c' ∧ Below w10.heap.size w10 w' ∧ w'.heap[bT]? = some (.cells #[.int .i64 n, .slice (some ⟨g7, 0, none⟩) (m + 2) c7] 24 (0, 0)) ∧ ArcsAt (w'.setCell ⟨bT, 1, none⟩ (.slice a' (m + 1) c')) a' (m + 1) (A ++ [(x1, x2, 0, 0)])) := fun v w' h1 h2 => by
    have hf : Below w10.heap.size w10 (w10.alloc (.cells #[.int .i64 x1, .int .i64 x2, .int .i64 0, .int .i64 0] 33)).drew := ((Below.refl _ _).alloc (Nat.le_refl _) _).drew
    have hf2 : Below w10.heap.size w10 w' := hf.grown h2 hf.size fun k hk => by cases hk
    rw [HFE.out] at h1
    obtain ⟨a', c', rfl, _⟩ := own_arcs h1 (by rw [List.length_append, HLEN.out]; rfl)
    have hown' : (w'.setCell ⟨bT, 1, none⟩ (.slice a' (m + 1) c')).ownsRow (w10.alloc (.cells #[.int .i64 x1, .int .i64 x2, .int .i64 0, .int .i64 0] 33)).drew.heap.size 33 4 (.slice a' (m + 1) c') (m + 1) (flatA (A ++ [(x1, x2, 0, 0)])) := own_of_block h1 fun q hq => heap_setCell_other _ _ _ _ fun e => by
      have h3 := (h1.lt q hq).1
      have h4 := hf.size
      have h5 : q = bT := e
      omega
    obtain ⟨a'', c'', e, hA⟩ := own_arcs hown' (by rw [List.length_append, HLEN.out]; rfl)
    injection e with e1 e2 e3
    subst e1 e3
    exact ⟨_, _, rfl, hf2, (hf2.block _ hbTl).trans HX10.out.2.1, hA⟩
  have q1 : (m : Int) ≤ (c7 : Int) := by omega
  have q2 : m ≤ c7 := by omega
  have n1 : ¬ bT = w.heap.size := by have h1 := HL.out.rin.lt; have h2 := HX10.out.2.2.2; omega
  have n2 : ¬ bT = bA := by have h1 := (Array.getElem?_eq_some_iff.1 HL.out.box).1; have h2 := HX10.out.2.2.2; omega
  have n1' : ¬ w.heap.size = bT := fun e => n1 e.symm
  have n2' : ¬ bA = bT := fun e => n2 e.symm
  have s1' : (w10.alloc (.cells #[.int .i64 x1, .int .i64 x2, .int .i64 0, .int .i64 0] 33)).cell? ⟨bT, 1, none⟩ = some (.slice (some ⟨g7, 0, none⟩) (m + 2) c7) := (World.cell?_alloc_lt _ _ _ (by show bT < _; exact hbTl)).trans s1
  clear HXM HXE hc7
  refine wp_region_held_drew (S := (fun w' => w'.cell? ⟨w.heap.size, 1, none⟩ = some (.slice (some ⟨b, off, none⟩) m c) ∧ w'.cell? ⟨bA, 0, none⟩ = some (.int .i64 x1) ∧ w'.cell? ⟨bA, 1, none⟩ = some (.int .i64 x2))) (by kernel_rfl) ?_ (fun hHeld0 => ?_)
  · (try dsimp only); go_keep
  refine wpAnyH_take (i := 0) (v := ?_) rfl (by kernel_rfl) (by kernel_rfl) (by kernel_rfl) (fun _ _ _ h => h) (Or.inl ⟨by rfl, ?_⟩) (by assumption) ?_
  rotate_left
  · intro w hSw; (try dsimp only at hSw); go_simp <;> with_reducible rfl
  try simp only [Act.put, List.setIfInBounds_toArray]
  refine wpAnyH_take (i := 2) (v := ?_) rfl (by kernel_rfl) (by kernel_rfl) (by kernel_rfl) (fun _ _ _ h => h) (Or.inl ⟨by rfl, ?_⟩) (by assumption) ?_
  rotate_left
  · intro w hSw; (try dsimp only at hSw); go_simp <;> with_reducible rfl
  try simp only [Act.put]
  refine wpAnyH_take (i := 3) (v := ?_) rfl (by kernel_rfl) (by kernel_rfl) (by kernel_rfl) (fun _ _ _ h => h) (Or.inl ⟨by rfl, ?_⟩) (by assumption) ?_
  rotate_left
  · intro w hSw; (try dsimp only at hSw); go_simp <;> with_reducible rfl
  try simp only [Act.put]
  refine wpAnyH_take (i := 4) (v := ?_) rfl (by kernel_rfl) (by kernel_rfl) (by kernel_rfl) (fun _ _ _ h => h) (Or.inl ⟨by rfl, ?_⟩) (by assumption) ?_
  rotate_left
  · intro w hSw; (try dsimp only at hSw); go_simp <;> with_reducible rfl
  try simp only [Act.put]
  refine wpAnyH_take (i := 5) (v := ?_) rfl (by kernel_rfl) (by kernel_rfl) (by kernel_rfl) (fun _ _ _ h => h) (Or.inl ⟨by rfl, ?_⟩) (by assumption) ?_
  rotate_left
  · intro w hSw; (try dsimp only at hSw); go_simp <;> with_reducible rfl
  try simp only [Act.put]
  refine wpAnyH_take (i := 6) (v := ?_) rfl (by kernel_rfl) (by kernel_rfl) (by kernel_rfl) (fun _ _ _ h => h) (Or.inl ⟨by rfl, ?_⟩) (by assumption) ?_
  rotate_left
  · intro w hSw; (try dsimp only at hSw); go_simp <;> with_reducible rfl
  try simp only [Act.put]
  refine wpAnyH_take (i := 7) (v := ?_) rfl (by kernel_rfl) (by kernel_rfl) (by kernel_rfl) (fun _ _ _ h => h) (Or.inl ⟨by rfl, ?_⟩) (by assumption) ?_
  rotate_left
  · intro w hSw; (try dsimp only at hSw); go_simp <;> with_reducible rfl
  try simp only [Act.put]
  refine wpAnyH_take (i := 9) (v := ?_) rfl (by kernel_rfl) (by kernel_rfl) (by kernel_rfl) (fun _ _ _ h => h) (Or.inl ⟨by rfl, ?_⟩) (by assumption) ?_
  rotate_left
  · intro w hSw; (try dsimp only at hSw); go_simp <;> with_reducible rfl
  try simp only [Act.put]
  refine wpAnyH_take (i := 10) (v := ?_) rfl (by kernel_rfl) (by kernel_rfl) (by kernel_rfl) (fun _ _ _ h => h) (Or.inl ⟨by rfl, ?_⟩) (by assumption) ?_
  rotate_left
  · intro w hSw; (try dsimp only at hSw); go_simp <;> with_reducible rfl
  try simp only [Act.put]
  refine wpAnyH_take (i := 11) (v := ?_) rfl (by kernel_rfl) (by kernel_rfl) (by kernel_rfl) (fun _ _ _ h => h) (Or.inl ⟨by rfl, ?_⟩) (by assumption) ?_
  rotate_left
  · intro w hSw; (try dsimp only at hSw); go_simp <;> with_reducible rfl
  try simp only [Act.put]
  refine wpAnyH_take (i := 12) (v := ?_) rfl (by kernel_rfl) (by kernel_rfl) (by kernel_rfl) (fun _ _ _ h => h) (Or.inl ⟨by rfl, ?_⟩) (by assumption) ?_
  rotate_left
  · intro w hSw; (try dsimp only at hSw); go_simp <;> with_reducible rfl
  try simp only [Act.put]
  refine wpAnyH_take (i := 13) (v := ?_) rfl (by kernel_rfl) (by kernel_rfl) (by kernel_rfl) (fun _ _ _ h => h) (Or.inl ⟨by rfl, ?_⟩) (by assumption) ?_
  rotate_left
  · intro w hSw; (try dsimp only at hSw); go_simp <;> with_reducible rfl
  try simp only [Act.put]
  refine wpAnyH_ready (rs := [1, 14]) (by kernel_rfl) (by simp) ?_
  refine AllReadyH.cons rfl (fun K hK => ?_) ?_
  · go_simp
    refine hK.out _ _ ?_ (fun hHeld1 => ?_)
    · (try dsimp only); go_keep
    clear hK K
    try simp only [Act.put, List.setIfInBounds_toArray, List.set_cons_zero, List.set_cons_succ]
    clear hHeld0
    refine wpAnyH_take (i := 8) (v := ?_) rfl (by kernel_rfl) (by kernel_rfl) (by kernel_rfl) (fun _ _ _ h => h) (Or.inl ⟨by rfl, ?_⟩) (by assumption) ?_
    rotate_left
    · intro w hSw; (try dsimp only at hSw); go_simp <;> with_reducible rfl
    try simp only [Act.put, List.setIfInBounds_toArray]
    refine wpAnyH_ready (rs := [14]) (by kernel_rfl) (by simp) ?_
    refine AllReadyH.cons rfl (fun K hK => ?_) ?_
    · go_simp
      refine hK.out _ _ ?_ (fun hHeld2 => ?_)
      · (try dsimp only); go_keep
      clear hK K
      try simp only [Act.put, List.setIfInBounds_toArray, List.set_cons_zero, List.set_cons_succ]
      clear hHeld1
      refine wpAnyH_ready (rs := [15]) (by kernel_rfl) (by simp) ?_
      refine AllReadyH.cons rfl (fun K hK => ?_) ?_
      · (refine step_append_grows (by rfl) (.tmp 103) (.tmp 109) 22 (by rfl) 33 i0' (.agg #[.int .i64 0, .int .i64 0, .int .i64 0, .int .i64 0]) 4 32 Try.underlying22 HI.out.1 HI.out.2.1 HI.out.2.2.1 HI.out.2.2.2 rfl (by decide) (some ⟨g7, 0, none⟩) m m (flatA A) (by rfl) (fun e => by cases e) HFA.out HOL.out ⟨w10.heap.size, 0, none⟩ 1 1 [.int .i64 x1, .int .i64 x2, .int .i64 0, .int .i64 0] (by rfl) rfl HNW.out (by simp [Value.oneCell']) (by omega) (by unfold maxLen; omega) (by omega) ?_; intro v11 w11 hown11 hgrow11; obtain ⟨a11, c11, rfl, hf11, hbx11, hA11⟩ := HAF.out _ _ hown11 hgrow11; have H11 := hide (And.intro hf11 (And.intro hbx11 hA11)); have t0 := cell_of_row w11 bT 0 _ _ _ hbx11; have t1 := cell_of_row w11 bT 1 _ _ _ hbx11; have tf := frozen_of_row w11 bT 1 _ _ hbx11; simp only [List.getElem?_toArray, List.getElem?_cons_succ, List.getElem?_cons_zero] at t0 t1; have t2 := (HX10.out.1.later hf11).rin.c1; have t3 := (HX10.out.1.later hf11).cx.1; have t4 := (HX10.out.1.later hf11).cx.2.1; clear hown11 hgrow11 hf11 hbx11 hA11)
        refine hK.out _ _ ?_ (fun hHeld3 => ?_)
        · (try dsimp only); go_keep
        clear hK K
        try simp only [Act.put, List.setIfInBounds_toArray]
        clear hHeld2
        refine wpAnyH_take (i := 16) (v := ?_) rfl (by kernel_rfl) (by kernel_rfl) (by kernel_rfl) (fun _ _ _ h => h) (Or.inl ⟨by rfl, ?_⟩) (by assumption) ?_
        rotate_left
        · intro w hSw; (try dsimp only at hSw); go_simp <;> with_reducible rfl
        try simp only [Act.put]
        refine wpAnyH_ready (rs := [17]) (by kernel_rfl) (by simp) ?_
        refine AllReadyH.cons rfl (fun K hK => ?_) ?_
        · go_simp
          refine hK.out _ _ ?_ (fun hHeld4 => ?_)
          · (try dsimp only); go_keep
          clear hK K
          try simp only [Act.put, List.setIfInBounds_toArray, List.set_cons_zero, List.set_cons_succ]
          clear hHeld3
          refine wpAnyH_done (by kernel_rfl) ?_ _
          clear hHeld4
          have HAR := hide H11.out.2.2
          have HLX : Hid (LX w.heap.size w n (some ⟨b, off, none⟩) m c A g W bA x1 x2 x3 x4 (w11.setCell ⟨bT, 1, none⟩ (.slice a11 (m + 1) c11))) := by
            have h1 : Below W5.heap.size W5 (w11.setCell ⟨bT, 1, none⟩ (.slice a11 (m + 1) c11)) := (HF10.out.trans (H11.out.1.mono HF10.out.size)).setCell HX10.out.2.2.2 _
            exact HL.out.later h1
          have HLV : Hid (∀ (w' : World) (q : Nat), GAt w' q n V → Calls Try.prog 11 #[.pointer (some ⟨q, 0, none⟩)] w' fun e w'' => e = .returned (.int .i64 (sumLen n W n)) ∧ w'' = w') := fun w' q hg => by
            have := len_any hg HN.out
            rw [HSL.out] at this
            exact this
          by_cases hx : x1 = x2
          · have hq : (x1 == x2) = true := by simp [hx]
            replace hx := hide hx
            have HWV : Hid (∀ (w' : World) (q : Nat), GAt w' q n V → Calls Try.prog 14 #[.pointer (some ⟨q, 0, none⟩), .int .i64 x1, .int .i64 x2] w' fun e w'' => e = .returned (.int .i64 (wt n V x1 x2)) ∧ Below w'.heap.size w' w'') := fun w' q hg => weight_any hg HN.out x1 x2
            go_wp2_with (first
              | (go_at_call 8; refine (HNG2.out a11 c11 _ HAR.out).mono ?_; rintro e w12 ⟨gk, rfl, h1, h2, _⟩; have gg := ((HLX.out.later h2).gr); have H12 := hide (HLX.out.later h2); obtain ⟨z0, z1, _, _⟩ := H12.out.cx; clear h2)
              | (go_at_call 14; refine (HWV.out _ _ (by assumption)).mono ?_; rintro e w13 ⟨rfl, h3⟩; have g3 := gg.later h3; have g4 := h1.later h3; have H13 := hide (H12.out.later h3); clear h3)
              | (go_at_call 11; refine (HLV.out _ _ (by assumption)).mono ?_; rintro e _ ⟨rfl, rfl⟩)
              | (go_at_call 11; refine (HLN.out _ _ (by assumption)).mono ?_; rintro e _ ⟨rfl, rfl⟩))
            go_ret
            exact ⟨by simp, H12.out.rin.below⟩
          · have hq : (x1 == x2) = false := by simp [hx]
            have HWV : Hid (∀ (w' : World) (q : Nat), GAt w' q n V → Calls Try.prog 14 #[.pointer (some ⟨q, 0, none⟩), .int .i64 x1, .int .i64 x2] w' fun e w'' => e = .returned (.int .i64 0) ∧ Below w'.heap.size w' w'') := fun w' q hg => by
              have := weight_any hg HN.out x1 x2
              rw [HW2.out hx] at this
              exact this
            replace hx := hide hx
            go_wp2_with (first
              | (go_at_call 8; refine (HNG2.out a11 c11 _ HAR.out).mono ?_; rintro e w12 ⟨gk, rfl, h1, h2, _⟩; have gg := ((HLX.out.later h2).gr); have H12 := hide (HLX.out.later h2); obtain ⟨z0, z1, _, _⟩ := H12.out.cx; clear h2)
              | (go_at_call 14; refine (HWV.out _ _ (by assumption)).mono ?_; rintro e w13 ⟨rfl, h3⟩; have g3 := gg.later h3; have g4 := h1.later h3; have H13 := hide (H12.out.later h3); clear h3)
              | (go_at_call 11; refine (HLV.out _ _ (by assumption)).mono ?_; rintro e _ ⟨rfl, rfl⟩)
              | (go_at_call 11; refine (HLN.out _ _ (by assumption)).mono ?_; rintro e _ ⟨rfl, rfl⟩))
            go_ret
            exact ⟨by simp, H13.out.rin.below⟩
        exact AllReadyH.nil
      exact AllReadyH.nil
    exact AllReadyH.nil
  refine AllReadyH.cons rfl (fun K hK => ?_) ?_
  · go_simp
    refine hK.out _ _ ?_ (fun hHeld5 => ?_)
    · (try dsimp only); go_keep
    clear hK K
    try simp only [Act.put, List.setIfInBounds_toArray, List.set_cons_zero, List.set_cons_succ]
    clear hHeld0
    refine wpAnyH_ready (rs := [1]) (by kernel_rfl) (by simp) ?_
    refine AllReadyH.cons rfl (fun K hK => ?_) ?_
    · go_simp
      refine hK.out _ _ ?_ (fun hHeld6 => ?_)
      · (try dsimp only); go_keep
      clear hK K
      try simp only [Act.put, List.setIfInBounds_toArray, List.set_cons_zero, List.set_cons_succ]
      clear hHeld5
      refine wpAnyH_take (i := 8) (v := ?_) rfl (by kernel_rfl) (by kernel_rfl) (by kernel_rfl) (fun _ _ _ h => h) (Or.inl ⟨by rfl, ?_⟩) (by assumption) ?_
      rotate_left
      · intro w hSw; (try dsimp only at hSw); go_simp <;> with_reducible rfl
      try simp only [Act.put, List.setIfInBounds_toArray]
      refine wpAnyH_ready (rs := [15]) (by kernel_rfl) (by simp) ?_
      refine AllReadyH.cons rfl (fun K hK => ?_) ?_
      · (refine step_append_grows (by rfl) (.tmp 103) (.tmp 109) 22 (by rfl) 33 i0' (.agg #[.int .i64 0, .int .i64 0, .int .i64 0, .int .i64 0]) 4 32 Try.underlying22 HI.out.1 HI.out.2.1 HI.out.2.2.1 HI.out.2.2.2 rfl (by decide) (some ⟨g7, 0, none⟩) m m (flatA A) (by rfl) (fun e => by cases e) HFA.out HOL.out ⟨w10.heap.size, 0, none⟩ 1 1 [.int .i64 x1, .int .i64 x2, .int .i64 0, .int .i64 0] (by rfl) rfl HNW.out (by simp [Value.oneCell']) (by omega) (by unfold maxLen; omega) (by omega) ?_; intro v11 w11 hown11 hgrow11; obtain ⟨a11, c11, rfl, hf11, hbx11, hA11⟩ := HAF.out _ _ hown11 hgrow11; have H11 := hide (And.intro hf11 (And.intro hbx11 hA11)); have t0 := cell_of_row w11 bT 0 _ _ _ hbx11; have t1 := cell_of_row w11 bT 1 _ _ _ hbx11; have tf := frozen_of_row w11 bT 1 _ _ hbx11; simp only [List.getElem?_toArray, List.getElem?_cons_succ, List.getElem?_cons_zero] at t0 t1; have t2 := (HX10.out.1.later hf11).rin.c1; have t3 := (HX10.out.1.later hf11).cx.1; have t4 := (HX10.out.1.later hf11).cx.2.1; clear hown11 hgrow11 hf11 hbx11 hA11)
        refine hK.out _ _ ?_ (fun hHeld7 => ?_)
        · (try dsimp only); go_keep
        clear hK K
        try simp only [Act.put]
        clear hHeld6
        refine wpAnyH_take (i := 16) (v := ?_) rfl (by kernel_rfl) (by kernel_rfl) (by kernel_rfl) (fun _ _ _ h => h) (Or.inl ⟨by rfl, ?_⟩) (by assumption) ?_
        rotate_left
        · intro w hSw; (try dsimp only at hSw); go_simp <;> with_reducible rfl
        try simp only [Act.put]
        refine wpAnyH_ready (rs := [17]) (by kernel_rfl) (by simp) ?_
        refine AllReadyH.cons rfl (fun K hK => ?_) ?_
        · go_simp
          refine hK.out _ _ ?_ (fun hHeld8 => ?_)
          · (try dsimp only); go_keep
          clear hK K
          try simp only [Act.put, List.setIfInBounds_toArray, List.set_cons_zero, List.set_cons_succ]
          clear hHeld7
          refine wpAnyH_done (by kernel_rfl) ?_ _
          clear hHeld8
          have HAR := hide H11.out.2.2
          have HLX : Hid (LX w.heap.size w n (some ⟨b, off, none⟩) m c A g W bA x1 x2 x3 x4 (w11.setCell ⟨bT, 1, none⟩ (.slice a11 (m + 1) c11))) := by
            have h1 : Below W5.heap.size W5 (w11.setCell ⟨bT, 1, none⟩ (.slice a11 (m + 1) c11)) := (HF10.out.trans (H11.out.1.mono HF10.out.size)).setCell HX10.out.2.2.2 _
            exact HL.out.later h1
          have HLV : Hid (∀ (w' : World) (q : Nat), GAt w' q n V → Calls Try.prog 11 #[.pointer (some ⟨q, 0, none⟩)] w' fun e w'' => e = .returned (.int .i64 (sumLen n W n)) ∧ w'' = w') := fun w' q hg => by
            have := len_any hg HN.out
            rw [HSL.out] at this
            exact this
          by_cases hx : x1 = x2
          · have hq : (x1 == x2) = true := by simp [hx]
            replace hx := hide hx
            have HWV : Hid (∀ (w' : World) (q : Nat), GAt w' q n V → Calls Try.prog 14 #[.pointer (some ⟨q, 0, none⟩), .int .i64 x1, .int .i64 x2] w' fun e w'' => e = .returned (.int .i64 (wt n V x1 x2)) ∧ Below w'.heap.size w' w'') := fun w' q hg => weight_any hg HN.out x1 x2
            go_wp2_with (first
              | (go_at_call 8; refine (HNG2.out a11 c11 _ HAR.out).mono ?_; rintro e w12 ⟨gk, rfl, h1, h2, _⟩; have gg := ((HLX.out.later h2).gr); have H12 := hide (HLX.out.later h2); obtain ⟨z0, z1, _, _⟩ := H12.out.cx; clear h2)
              | (go_at_call 14; refine (HWV.out _ _ (by assumption)).mono ?_; rintro e w13 ⟨rfl, h3⟩; have g3 := gg.later h3; have g4 := h1.later h3; have H13 := hide (H12.out.later h3); clear h3)
              | (go_at_call 11; refine (HLV.out _ _ (by assumption)).mono ?_; rintro e _ ⟨rfl, rfl⟩)
              | (go_at_call 11; refine (HLN.out _ _ (by assumption)).mono ?_; rintro e _ ⟨rfl, rfl⟩))
            go_ret
            exact ⟨by simp, H12.out.rin.below⟩
          · have hq : (x1 == x2) = false := by simp [hx]
            have HWV : Hid (∀ (w' : World) (q : Nat), GAt w' q n V → Calls Try.prog 14 #[.pointer (some ⟨q, 0, none⟩), .int .i64 x1, .int .i64 x2] w' fun e w'' => e = .returned (.int .i64 0) ∧ Below w'.heap.size w' w'') := fun w' q hg => by
              have := weight_any hg HN.out x1 x2
              rw [HW2.out hx] at this
              exact this
            replace hx := hide hx
            go_wp2_with (first
              | (go_at_call 8; refine (HNG2.out a11 c11 _ HAR.out).mono ?_; rintro e w12 ⟨gk, rfl, h1, h2, _⟩; have gg := ((HLX.out.later h2).gr); have H12 := hide (HLX.out.later h2); obtain ⟨z0, z1, _, _⟩ := H12.out.cx; clear h2)
              | (go_at_call 14; refine (HWV.out _ _ (by assumption)).mono ?_; rintro e w13 ⟨rfl, h3⟩; have g3 := gg.later h3; have g4 := h1.later h3; have H13 := hide (H12.out.later h3); clear h3)
              | (go_at_call 11; refine (HLV.out _ _ (by assumption)).mono ?_; rintro e _ ⟨rfl, rfl⟩)
              | (go_at_call 11; refine (HLN.out _ _ (by assumption)).mono ?_; rintro e _ ⟨rfl, rfl⟩))
            go_ret
            exact ⟨by simp, H13.out.rin.below⟩
        exact AllReadyH.nil
      exact AllReadyH.nil
    exact AllReadyH.nil
  exact AllReadyH.nil
theorem light_any (n : Int) (a : Option Addr) (m c : Nat) (A : List Arc) (i0 j0 : Int) (w : World) (h : ArcsAt w a m A) (hc : a = none → c = 0) (hz : m * 32 ≤ 140737488355328) :
    Calls Try.prog 3 #[.agg #[.int .i64 n, .slice a m c], .int .i64 i0, .int .i64 j0] w fun e w' => e = .returned (.bool true) ∧ Below w.heap.size w w' := by
  by_cases he : (checkM n A).2 = 0
  · obtain ⟨hn, _⟩ := checkM_ok he
    obtain ⟨k, rfl⟩ : ∃ k : Nat, n = (k : Int) := ⟨n.toNat, by omega⟩
    by_cases hm : 1 ≤ m ∧ m ≤ 254
    · exact light_good k a m c A i0 j0 w h hc he hm
    · exact light_out k a m c A i0 j0 w h hc he (by omega)
  · exact light_bad n a m c A i0 j0 w h hc hz he
end Go.Proofs.Ytojkdmkeankcgaa
