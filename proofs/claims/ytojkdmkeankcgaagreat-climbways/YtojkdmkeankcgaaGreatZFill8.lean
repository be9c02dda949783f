/-
  What the call of climb's fill does: of each place a bucket of all places to which one comes down from it.
-/
import Derived.Test.YtojkdmkeankcgaaGreatZReach8
import Derived.Test.YtojkdmkeankcgaaGreatZLeastQ
import Derived.Test.YtojkdmkeankcgaaGreatGather
import Derived.Deep.RegionHeld3
namespace Go.Proofs.YtojkdmkeankcgaaGreat
open Go.RowKit Go.Sort Go.Lib Go.Shelf
attribute [local go_sem ↓] Go.wp_at_zero Go.wp_at_succ

/-- The least weights of a side, whoever found them. -/
def sideD (n : Nat) (E : Mx) (s : Nat) : Nat → Option Int := fun v => if v < n then least n (wtM E) s v else none
theorem EOk8.pot {n : Nat} {E : Mx} {φ : Nat → Int} {ρ : Nat → Nat} (h : EOk8 n E φ ρ) : Pt.WPot φ n (wtM E) := fun a b v ha hb e => by
  obtain ⟨m, e⟩ := wtM_some.1 e
  have := h.e a b v m e
  exact ⟨this.2.2.1, this.2.2.2.1⟩
theorem side_eq {n s : Nat} {up : Bool} {E : Mx} {D : Nat → Option Int} {A : Nat → Lnk} {φ : Nat → Int} {ρ : Nat → Nat} (h : Side n up E s D A) (hE : EOk8 n E φ ρ) (hs : s < n) : D = sideD n E s := by
  funext v
  unfold sideD
  split
  · rename_i hv
    exact h.least.eq (Pt.least_is hE.pot s hs) v hv
  · rename_i hv
    cases e : D v with
    | none => rfl
    | some d => exact absurd (h.lt v d e).1 hv
theorem sideD_is {n s : Nat} {E : Mx} {φ : Nat → Int} {ρ : Nat → Nat} (hE : EOk8 n E φ ρ) (hs : s < n) : IsLeast n (wtM E) s (sideD n E s) := by
  have h := Pt.least_is hE.pot s hs
  have e : ∀ v, v < n → sideD n E s v = least n (wtM E) s v := fun v hv => if_pos hv
  refine ⟨by rw [e s hs]; exact h.here, fun q d hq hd => h.way q d hq (by rw [← e q hq]; exact hd), fun u v d x hu hv hd hx => ?_⟩
  rw [e u hu] at hd
  rw [e v hv]
  exact h.edge u v d x hu hv hd hx
theorem sideD_ok {n s : Nat} {E : Mx} {φ : Nat → Int} {ρ : Nat → Nat} (hE : EOk8 n E φ ρ) (hs : s < n) : DOk n (sideD n E s) := fun v d e => by
  have hv : v < n := by
    unfold sideD at e
    split at e
    · assumption
    · cases e
  exact ⟨hv, hE.lid ((sideD_is hE hs).way v d hv e) hs hv⟩
section
variable {n : Nat} {w : World} {b : LfB} {rv : Nat → Int} {W : Nat → Nat → Option Int} {K : Mx} {rk : Nat → Nat} {Q : Nat → Option Int}
theorem reach_up_any (hl : LfA n w b rv (upM K rk) (dnM K rk)) (hn : n ≤ 32) (hBd : Bd n W n K rk Q rv) {p : Nat} (hp : p < n) :
    Calls Tryz.prog 17 #[.pointer (some ⟨b.l, 0, none⟩), .int .i64 p, .bool true] w fun e w' => ∃ vp vm, e = .returned (.tuple #[vp, vm]) ∧ IRow w' w.heap.size vp (rcP (sideD n (upM K rk) p) n) ∧ IRow w' w.heap.size vm (rcW (sideD n (upM K rk) p) n) ∧ Below w.heap.size w w' := by
  refine (reach_up hn (wards_up hl hn hBd hp)).mono ?_
  rintro e w' ⟨vp, vm, D, A, rfl, h1, h2, h3, h4⟩
  rw [side_eq h1 (eok_up hBd hn) hp] at h2 h3
  exact ⟨vp, vm, rfl, h2, h3, h4⟩
theorem reach_dn_any (hl : LfA n w b rv (upM K rk) (dnM K rk)) (hn : n ≤ 32) (hBd : Bd n W n K rk Q rv) {p : Nat} (hp : p < n) :
    Calls Tryz.prog 17 #[.pointer (some ⟨b.l, 0, none⟩), .int .i64 p, .bool false] w fun e w' => ∃ vp vm, e = .returned (.tuple #[vp, vm]) ∧ IRow w' w.heap.size vp (rcP (sideD n (dnE K rk) p) n) ∧ IRow w' w.heap.size vm (rcW (sideD n (dnE K rk) p) n) ∧ Below w.heap.size w w' := by
  refine (reach_dn hn (wards_dn hl hn hBd hp)).mono ?_
  rintro e w' ⟨vp, vm, D, A, rfl, h1, h2, h3, h4⟩
  rw [side_eq h1 (eok_dn hBd hn) hp] at h2 h3
  exact ⟨vp, vm, rfl, h2, h3, h4⟩
end
theorem rcL_nil (k : Nat) : rcL (fun _ => none) k = [] := by unfold rcL; simp
theorem reach_up_out {n : Nat} {w : World} {b : LfB} {rv : Nat → Int} {U V : Mx} (hl : LfA n w b rv U V) (hn : n ≤ 32) {p : Int} (hp : ¬ (0 ≤ p ∧ p < n)) :
    Calls Tryz.prog 17 #[.pointer (some ⟨b.l, 0, none⟩), .int .i64 p, .bool true] w fun e w' => ∃ vp vm, e = .returned (.tuple #[vp, vm]) ∧ IRow w' w.heap.size vp [] ∧ IRow w' w.heap.size vm [] ∧ Below w.heap.size w w' := by
  refine (reach_up (lk := .func (.func 18) #[.pointer (some ⟨b.l, 0, none⟩)] #[]) (lo := .func (.func 66) #[] #[]) (hi := .func (.func 67) #[] #[]) (P := fun D _ => D = fun _ => none) hn ((wards_up_out hl hn hp).mono ?_)).mono ?_
  · rintro e w' ⟨sb, gc, gl, gy, A, rfl, h1, h2⟩
    exact ⟨sb, gc, gl, gy, _, A, rfl, h1, rfl, h2⟩
  · rintro e w' ⟨vp, vm, D, A, rfl, rfl, h2, h3, h4⟩
    unfold rcP at h2
    unfold rcW at h3
    rw [rcL_nil] at h2 h3
    exact ⟨vp, vm, rfl, h2, h3, h4⟩
theorem reach_dn_out {n : Nat} {w : World} {b : LfB} {rv : Nat → Int} {U V : Mx} (hl : LfA n w b rv U V) (hn : n ≤ 32) {p : Int} (hp : ¬ (0 ≤ p ∧ p < n)) :
    Calls Tryz.prog 17 #[.pointer (some ⟨b.l, 0, none⟩), .int .i64 p, .bool false] w fun e w' => ∃ vp vm, e = .returned (.tuple #[vp, vm]) ∧ IRow w' w.heap.size vp [] ∧ IRow w' w.heap.size vm [] ∧ Below w.heap.size w w' := by
  refine (reach_dn (lk := .func (.func 19) #[.pointer (some ⟨b.l, 0, none⟩)] #[]) (lo := .func (.func 67) #[] #[]) (hi := .func (.func 66) #[] #[]) (P := fun D _ => D = fun _ => none) hn ((wards_dn_out hl hn hp).mono ?_)).mono ?_
  · rintro e w' ⟨sb, gc, gl, gy, A, rfl, h1, h2⟩
    exact ⟨sb, gc, gl, gy, _, A, rfl, h1, rfl, h2⟩
  · rintro e w' ⟨vp, vm, D, A, rfl, rfl, h2, h3, h4⟩
    unfold rcP at h2
    unfold rcW at h3
    rw [rcL_nil] at h2 h3
    exact ⟨vp, vm, rfl, h2, h3, h4⟩
theorem reach_up_nil (p : Int) (w : World) : Calls Tryz.prog 17 #[.pointer none, .int .i64 p, .bool true] w fun e w' => ∃ vp vm, e = .returned (.tuple #[vp, vm]) ∧ IRow w' w.heap.size vp [] ∧ IRow w' w.heap.size vm [] ∧ Below w.heap.size w w' := by
  refine (reach_up (n := 0) (lk := .func (.func 18) #[.pointer none] #[]) (lo := .func (.func 66) #[] #[]) (hi := .func (.func 67) #[] #[]) (P := fun _ _ => True) (by omega) ((wards_up_nil p w).mono ?_)).mono ?_
  · rintro e w' ⟨sb, gc, gl, gy, A, rfl, h1, h2⟩
    exact ⟨sb, gc, gl, gy, _, A, rfl, h1, trivial, h2⟩
  · rintro e w' ⟨vp, vm, D, A, rfl, _, h2, h3, h4⟩
    exact ⟨vp, vm, rfl, h2, h3, h4⟩
/-! ### buckets -/
/-- Of the first k places those to which one comes down from v, with their weights. -/
def fB (F : Nat → Nat → Option Int) (k v : Nat) : List (Int × Int) := (List.range k).filterMap fun (t : Nat) => (F t v).map fun d => ((t : Int), d)
theorem fB_succ (F : Nat → Nat → Option Int) (k v : Nat) : fB F (k + 1) v = fB F k v ++ (match F k v with | some d => [((k : Int), d)] | none => []) := by
  unfold fB
  rw [List.range_succ, List.filterMap_append]
  cases h : F k v <;> simp [h]
theorem fB_len (F : Nat → Nat → Option Int) (k v : Nat) : (fB F k v).length ≤ k := by
  unfold fB
  exact Nat.le_trans (List.length_filterMap_le _ _) (by simp)
/-- The same, and of the k-th those of its first c places. -/
def fC (F : Nat → Nat → Option Int) (n k c v : Nat) : List (Int × Int) := if v ∈ (rcL (F k) n).take c then fB F (k + 1) v else fB F k v
theorem rcL_nodup (D : Nat → Option Int) (k : Nat) : (rcL D k).Nodup := List.nodup_range.filter _
theorem rcL_at {D : Nat → Option Int} {k c : Nat} (hc : c < (rcL D k).length) : ∃ v d, (rcL D k)[c]! = v ∧ v < k ∧ D v = some d ∧ (rcP D k)[c]! = (v : Int) ∧ (rcW D k)[c]! = d := by
  have hm := mem_rcL.1 (show (rcL D k)[c]! ∈ rcL D k by rw [getElem!_pos _ c hc]; exact List.getElem_mem hc)
  obtain ⟨d, hd⟩ := Option.isSome_iff_exists.1 hm.2
  refine ⟨_, d, rfl, hm.1, hd, ?_, ?_⟩
  · unfold rcP
    rw [getElem!_pos _ c (by simpa using hc), getElem!_pos _ c hc]
    simp
  · unfold rcW
    rw [getElem!_pos _ c (by simpa using hc)]
    rw [getElem!_pos _ c hc] at hd
    simp [hd]
theorem fC_zero (F : Nat → Nat → Option Int) (n k v : Nat) : fC F n k 0 v = fB F k v := by simp [fC]
theorem fC_all (F : Nat → Nat → Option Int) (n k : Nat) {v : Nat} (hv : v < n) : fC F n k (rcL (F k) n).length v = fB F (k + 1) v := by
  unfold fC
  rw [List.take_length]
  split
  · rfl
  · rename_i h
    rw [fB_succ]
    cases e : F k v with
    | none => simp
    | some d => exact absurd (mem_rcL.2 ⟨hv, by rw [e]; rfl⟩) h
theorem take_succ_mem {L : List Nat} {c u : Nat} (hc : c < L.length) : u ∈ L.take (c + 1) ↔ u ∈ L.take c ∨ u = L[c]! := by
  rw [List.take_succ_eq_append_getElem hc, List.mem_append, getElem!_pos L c hc, List.mem_singleton]
theorem fC_here (F : Nat → Nat → Option Int) {n k c v : Nat} {d : Int} (hc : c < (rcL (F k) n).length) (hv : (rcL (F k) n)[c]! = v) (hd : F k v = some d) : fC F n k (c + 1) v = fC F n k c v ++ [((k : Int), d)] := by
  have h1 : v ∉ (rcL (F k) n).take c := fun h => by
    obtain ⟨i, hi, e⟩ := List.mem_take_iff_getElem.1 h
    rw [getElem!_pos _ c hc] at hv
    exact List.pairwise_iff_getElem.1 (rcL_nodup (F k) n) i c (by omega) hc (by omega) (by rw [e, hv])
  unfold fC
  rw [if_pos ((take_succ_mem hc).2 (.inr hv.symm)), if_neg h1, fB_succ, hd]
theorem fC_other (F : Nat → Nat → Option Int) {n k c v u : Nat} (hc : c < (rcL (F k) n).length) (hv : (rcL (F k) n)[c]! = v) (hu : u ≠ v) : fC F n k (c + 1) u = fC F n k c u := by
  have : u ∈ (rcL (F k) n).take (c + 1) ↔ u ∈ (rcL (F k) n).take c := by rw [take_succ_mem hc, hv]; simp [hu]
  unfold fC
  by_cases h : u ∈ (rcL (F k) n).take c
  · rw [if_pos h, if_pos (this.2 h)]
  · rw [if_neg h, if_neg (fun e => h (this.1 e))]
theorem fC_len (F : Nat → Nat → Option Int) (n k c v : Nat) : (fC F n k c v).length ≤ k + 1 := by
  unfold fC
  split
  · exact fB_len _ _ _
  · have := fB_len F k v; omega
theorem Outs.congr {B O n : Nat} {w : World} {R R' : Nat → List (Int × Int)} {vs : List Value} (h : Outs B O n w R vs) (e : ∀ p, p < n → R p = R' p) : Outs B O n w R' vs := ⟨h.len, h.blk, fun p hp => by rw [← e p hp]; exact h.row p hp, h.dis⟩
theorem outs_ints {O n : Nat} {w : World} {R : Nat → List (Int × Int)} {vs : List Value} (h : Outs O O n w R vs) {B : Nat} {v : Value} {xs : List Int} (hr : IRow w B v xs) {k : Nat} (hk : v.ownBlock = some k) : k ≠ O ∧ ∀ p, p < n → (vs.getD p undef).ownBlock ≠ some k := by
  obtain ⟨cur, hc⟩ := own_tag hr hk
  refine ⟨fun e => ?_, fun p hp e => ?_⟩
  · rw [e, h.blk] at hc; simp at hc
  · obtain ⟨c2, hc2⟩ := own_tag (h.row p hp) e
    rw [hc2] at hc; simp at hc
/-- The round's end: behind the append and the store. -/
theorem fill_step {O n : Nat} {w0 wr w3 : World} {R R' : Nat → List (Int × Int)} {p g cap : Nat} {vs : List Value} (x : Int × Int) (hp : p < n) (h : Outs O O n wr R vs) (hb : Below O w0 wr)
    (o : Obj) (hown : w3.ownsRow O 75 2 (.slice (some ⟨g, 0, none⟩) ((R p).length + 1) cap) ((R p).length + 1) (flatE (R p) ++ [.int .i64 x.1, .int .i64 x.2]))
    (hg : (wr.alloc o).drew.grownBy w3 (vs.getD p undef).ownBlock) (hat : (vs.getD p undef).ownBlock = some g ∨ g = wr.heap.size + 1) (hR : R' p = R p ++ [x]) (hR2 : ∀ q, q ≠ p → R' q = R q) :
    ∃ vs', Outs O O n (w3.setCell ⟨O, p, none⟩ (.slice (some ⟨g, 0, none⟩) ((R p).length + 1) cap)) R' vs' ∧ Below O w0 (w3.setCell ⟨O, p, none⟩ (.slice (some ⟨g, 0, none⟩) ((R p).length + 1) cap)) ∧ ∀ (B : Nat) (v : Value) (xs : List Int), IRow wr B v xs → IRow (w3.setCell ⟨O, p, none⟩ (.slice (some ⟨g, 0, none⟩) ((R p).length + 1) cap)) B v xs := by
  have hm := h.more p hp x o (Below.refl _ _) hown hg hat R' hR hR2
  have hs : (w3.setCell ⟨O, p, none⟩ (.slice (some ⟨g, 0, none⟩) ((R p).length + 1) cap)).heap.size = w3.heap.size := by simp [World.setCell]
  have hs2 := hg.size
  have hs3 : (wr.alloc o).drew.heap.size = wr.heap.size + 1 := by show (wr.alloc o).heap.size = _; simp
  have hO := h.lt
  refine ⟨_, hm.1, hb.trans ⟨?_, ?_, ?_, by rw [hs]; omega, fun k hk => hm.2 k (by omega) (by omega) (fun e => by have := (h.row p hp).lt k e; omega)⟩, fun B v xs hr => own_of_block hr fun k hk => ?_⟩
  · exact hg.os
  · exact hg.tape
  · exact hg.output
  · obtain ⟨h1, h2⟩ := outs_ints h hr hk
    exact hm.2 k (hr.lt k hk).2 h1 (h2 p hp)
/-- While fill runs. -/
structure FlIn (w : World) (O n : Nat) (R : Nat → List (Int × Int)) (vs : List Value) (wr : World) : Prop where
  below : Below O w wr
  outs : Outs O O n wr R vs
set_option maxRecDepth 100000 in
set_option maxHeartbeats 12800000 in
theorem fill_any {n : Nat} {w : World} {b : LfB} {rv : Nat → Int} {W : Nat → Nat → Option Int} {K : Mx} {rk : Nat → Nat} {Q : Nat → Option Int} (hl : LfA n w b rv (upM K rk) (dnM K rk)) (hn : n ≤ 32) (hBd : Bd n W n K rk Q rv) :
    Calls Tryz.prog 39 #[.pointer (some ⟨b.l, 0, none⟩)] w fun e w' => ∃ O vs, e = .returned (.slice (some ⟨O, 0, none⟩) n n) ∧ Outs O O n w' (fB (sideD n (dnE K rk)) n) vs ∧ w.heap.size ≤ O ∧ Below w.heap.size w w' := by
  have HPL := hide (lplaces_any hl hn)
  have HL := hide hl
  have HN := hide hn
  have HBD := hide hBd
  have HF : Hid (∀ t, t < n → DOk n (sideD n (dnE K rk) t)) := fun t ht => sideD_ok (eok_dn hBd hn) ht
  have hmk := made_rows n hn
  obtain ⟨i0, hi0, hz0, hz1, hz2⟩ := info_parts info53
  have HI := hide (And.intro hi0 (And.intro hz0 (And.intro hz1 hz2)))
  obtain ⟨O, hO⟩ : ∃ O, w.heap.size = O := ⟨_, rfl⟩
  have HS : Hid (FlIn w w.heap.size n (fB (sideD n (dnE K rk)) 0) (List.replicate n (.slice none 0 0)) (w.alloc (.cells (List.replicate n (.slice none 0 0)).toArray 73))) :=
    ⟨(Below.refl _ _).alloc (Nat.le_refl _) _, (outs_start w.heap.size n _ (heap_alloc_new w (.cells (List.replicate n (.slice none 0 0)).toArray 73))).congr fun p _ => rfl⟩
  have HO := hide hO
  clear hl hBd hi0 hz0 hz1 hz2
  go_enter Tryz.func39, Tryz.ntmps39
  go_wp2_with (go_at_call 31; refine HPL.out.mono ?_; rintro e w1 ⟨rfl, hw⟩; rw [hw]; clear hw)
  rw [hO] at HS
  try rw [hO]
  clear hmk hO
  generalize hF : sideD n (dnE K rk) = F at HS HF ⊢
  have HFE := hide hF
  clear hF
  go_loopw [14] (fun vi wr => ∃ (k : Nat) (vs : List Value), vi = .int .i64 k ∧ k ≤ n ∧ Hid (FlIn w O n (fB F k) vs wr)) (fun vi _ => n - (intOf vi).toNat)
  case atStart => first | exact ⟨0, _, rfl, Nat.zero_le _, HS.out⟩ | exact ⟨0, _, rfl, Nat.zero_le _, by simpa using HS.out⟩
  case round =>
    clear HS
    obtain ⟨k, vs0, rfl, hk, HR⟩ := hrel
    by_cases hkn : k < n
    · have j1 : (k : Int) < (n : Int) := by omega
      have HKN := hide hkn
      have HLR : Hid (LfA n wr b rv (upM K rk) (dnM K rk)) := HL.out.of_blocks fun j hj => HR.out.below.block j (by rw [← HO.out]; exact HL.out.lt hj)
      go_wp2_with (go_at_call 17; have h0 := reach_dn_any HLR.out HN.out HBD.out HKN.out; rw [HFE.out] at h0; refine h0.mono ?_; clear h0; rintro e w2 ⟨vp, vm, rfl, h1, h2, h3⟩; obtain ⟨pa, pc, rfl⟩ := h1.shape; obtain ⟨ma, mc, rfl⟩ := h2.shape; have H2 := hide (And.intro h1 (And.intro h2 h3)); clear h1 h2 h3)
      have HLN := hide (rcP_len (F k) n)
      generalize hbp : wr.heap.size = bp at H2
      have HS2 : Hid (FlIn w O n (fC F n k 0) vs0 w2 ∧ IRow w2 bp (.slice pa (rcP (F k) n).length pc) (rcP (F k) n) ∧ IRow w2 bp (.slice ma (rcW (F k) n).length mc) (rcW (F k) n)) := by
        have f : Below wr.heap.size wr w2 := hbp ▸ H2.out.2.2
        exact ⟨⟨HR.out.below.trans (f.mono (Nat.le_of_lt HR.out.outs.lt)), (HR.out.outs.later f).congr fun p _ => (fC_zero F n k p).symm⟩, H2.out.1, H2.out.2.1⟩
      have hlp : (rcP (F k) n).length = (rcL (F k) n).length := by simp [rcP]
      have hlm : (rcW (F k) n).length = (rcL (F k) n).length := by simp [rcW]
      rw [hlp] at HS2 ⊢
      rw [hlm] at HS2 ⊢
      obtain ⟨L, hL⟩ : ∃ L, (rcL (F k) n).length = L := ⟨_, rfl⟩
      have HLE := hide hL
      have hLn : L ≤ 32 := by have := rcL_len (F k) n; omega
      rw [hL] at HS2 ⊢
      clear H2 HR HLR HLN hbp hlp hlm hL
      go_loopw [25] (fun vi wr => ∃ (c : Nat) (vs : List Value), vi = .int .i64 c ∧ c ≤ L ∧ Hid (FlIn w O n (fC F n k c) vs wr ∧ IRow wr bp (.slice pa L pc) (rcP (F k) n) ∧ IRow wr bp (.slice ma L mc) (rcW (F k) n))) (fun vi _ => L - (intOf vi).toNat)
      case atStart => exact ⟨0, vs0, rfl, Nat.zero_le _, HS2.out⟩
      case round =>
        clear HS2
        obtain ⟨c, vs, rfl, hc, HR⟩ := hrel
        by_cases hcl : c < L
        · have hcl' : c < (rcL (F k) n).length := by rw [HLE.out]; exact hcl
          obtain ⟨p, d, hv, hp, hd, e1, e2⟩ := rcL_at hcl'
          have hlp : (rcP (F k) n).length = (rcL (F k) n).length := by simp [rcP]
          have hlm : (rcW (F k) n).length = (rcL (F k) n).length := by simp [rcW]
          obtain ⟨gp, cp, hvp, _, _, _, _⟩ := HR.out.2.1.form (by omega)
          obtain ⟨gm, cm, hvm, _, _, _, _⟩ := HR.out.2.2.form (by omega)
          injection hvp with q1 q2 q3
          injection hvm with q4 q5 q6
          subst q1 q3 q4 q6
          have x1 := HR.out.2.1.cell c (by omega)
          have x2 := HR.out.2.2.cell c (by omega)
          rw [e1] at x1
          rw [e2] at x2
          have HOU := hide HR.out.1.outs
          obtain ⟨ra, rc, hrv⟩ := outs_len HOU.out p hp
          have HRV := hide hrv
          have hOr := HOU.out.lt
          have cO : wr.cell? ⟨O, p, none⟩ = some (.slice ra (fC F n k c p).length rc) := by
            rw [cell_of_row wr O p _ _ _ HOU.out.blk, ← hrv]
            simp [List.getD_eq_getElem?_getD, HOU.out.len, hp]
          have hbl : (fC F n k c p).length ≤ 33 := by have := fC_len F n k c p; omega
          have i1 : (c : Int) < (L : Int) := by omega
          have i2 : (p : Int) < (n : Int) := by omega
          have hgO := (outs_ints HOU.out HR.out.2.2 rfl).1
          have hneO : (Value.slice ra (fC F n k c p).length rc).ownBlock ≠ some O := fun e => by
            have hrow := HOU.out.row p hp
            rw [hrv] at hrow
            obtain ⟨cur, hcur⟩ := own_tag hrow e
            rw [HOU.out.blk] at hcur
            simp at hcur
          have HST : Hid (∀ w3 gg cap, w3.ownsRow O 75 2 (.slice (some ⟨gg, 0, none⟩) ((fC F n k c p).length + 1) cap) ((fC F n k c p).length + 1) (flatE (fC F n k c p) ++ [.int .i64 k, .int .i64 d]) → (wr.alloc (.cells #[.int .i64 k, .int .i64 d] 75)).drew.grownBy w3 (Value.slice ra (fC F n k c p).length rc).ownBlock → ((Value.slice ra (fC F n k c p).length rc).ownBlock = some gg ∨ gg = wr.heap.size + 1) →
              ∃ vs', FlIn w O n (fC F n k (c + 1)) vs' (w3.setCell ⟨O, p, none⟩ (.slice (some ⟨gg, 0, none⟩) ((fC F n k c p).length + 1) cap)) ∧ IRow (w3.setCell ⟨O, p, none⟩ (.slice (some ⟨gg, 0, none⟩) ((fC F n k c p).length + 1) cap)) bp (.slice (some ⟨gp, 0, none⟩) L pc) (rcP (F k) n) ∧ IRow (w3.setCell ⟨O, p, none⟩ (.slice (some ⟨gg, 0, none⟩) ((fC F n k c p).length + 1) cap)) bp (.slice (some ⟨gm, 0, none⟩) L mc) (rcW (F k) n)) := fun w3 gg cap h1 h2 h3 => by
            rw [← HRV.out] at h2 h3
            obtain ⟨vs', a1, a2, a3⟩ := fill_step ((k : Int), d) hp HOU.out HR.out.1.below _ h1 h2 h3 (R' := fC F n k (c + 1)) (fC_here F hcl' hv hd) (fun q hq => fC_other F hcl' hv hq)
            exact ⟨vs', ⟨a2, a1⟩, a3 _ _ _ HR.out.2.1, a3 _ _ _ HR.out.2.2⟩
          have HRW : Hid ((wr.alloc (.cells #[.int .i64 k, .int .i64 d] 75)).drew.ownsRow O 75 2 (.slice ra (fC F n k c p).length rc) (fC F n k c p).length (flatE (fC F n k c p))) := by
            have := ((HOU.out.row p hp).alloc (.cells #[.int .i64 k, .int .i64 d] 75)).drew
            rw [HRV.out] at this
            exact this
          have hgm : gm < wr.heap.size := (HR.out.2.2.lt gm rfl).2
          generalize hbk : fC F n k c p = bk at HST HRW cO hneO hbl ⊢
          have HBK := hide hbk
          have HO2 : Hid (∀ w3 : World, (wr.alloc (.cells #[.int .i64 k, .int .i64 d] 75)).drew.grownBy w3 (Value.slice ra bk.length rc).ownBlock → w3.heap[O]? = some (.cells vs.toArray 73 (0, 0))) := fun w3 hg => by
            rw [hg.block O (by show O < (wr.alloc _).heap.size; simp; omega) (fun e => hneO e.symm)]
            show (wr.alloc _).heap[O]? = _
            rw [Below.heap_alloc _ _ _ (by omega)]
            exact HOU.out.blk
          have hvs : p < vs.toArray.size := by rw [List.size_toArray, HOU.out.len]; exact hp
          have vv : (vs.toArray[p]?).isSome = true := by simp [Array.getElem?_eq_getElem hvs]
          obtain ⟨ov, hov⟩ := Option.isSome_iff_exists.1 vv
          have cO2 : (wr.alloc (.cells #[.int .i64 k, .int .i64 d] 75)).cell? ⟨O, p, none⟩ = some (.slice ra bk.length rc) := by rw [World.cell?_alloc_lt _ _ _ (by show O < _; omega)]; exact cO
          have x22 : (wr.alloc (.cells #[.int .i64 k, .int .i64 d] 75)).cell? ⟨gm, c, none⟩ = some (.int .i64 d) := by rw [World.cell?_alloc_lt _ _ _ (by show gm < _; omega)]; exact x2
          have HNW : Hid (∀ j u, [Value.int .i64 k, Value.int .i64 d][j]? = some u → (wr.alloc (.cells #[.int .i64 k, .int .i64 d] 75)).drew.cell? ((⟨wr.heap.size, 0, none⟩ : Addr).add j) = some u) := World.news_of_block (cs := #[.int .i64 k, .int .i64 d]) (t := 75) (fr := (0, 0)) (heap_alloc_new _ _)
          have HML : Hid (bk.length + 1 ≤ maxLen) := by show _ ≤ _; unfold maxLen; omega
          have HBY : Hid ((bk.length + 1) * 16 ≤ 140737488355328) := by show _ ≤ _; omega
          have HOL : Hid (O ≤ (wr.alloc (.cells #[.int .i64 k, .int .i64 d] 75)).drew.heap.size) := by show O ≤ (wr.alloc _).heap.size; simp; omega
          have HSZ : Hid ((wr.alloc (.cells #[.int .i64 k, .int .i64 d] 75)).drew.heap.size = wr.heap.size + 1) := by show (wr.alloc _).heap.size = _; simp
          have hp0 : (0 : Int) ≤ (p : Int) := by omega
          have hc0 : (0 : Int) ≤ (c : Int) := by omega
          clear q2 q5 vv hvs hbk e1 e2 hrv hneO hv hd hlp hlm hcl' HR hbl
          go_wp2
          go_region_law
            (refine step_append_lies _ rfl (.tmp 35) (.tmp 42) 73 rfl O 75 i0 (.agg #[.int .i64 0, .int .i64 0]) 2 16 Tryz.underlying73 HI.out.1 HI.out.2.1 HI.out.2.2.1 HI.out.2.2.2 rfl (by decide) (.slice ra bk.length rc) bk.length (flatE bk) rfl (HRW.out) ⟨wr.heap.size, 0, none⟩ 1 1 [.int .i64 k, .int .i64 d] rfl rfl HNW.out (by simp [Value.oneCell']) (by decide) HML.out HBY.out HOL.out (wr.heap.size + 1) HSZ.out ?_; intro gg cap w3 hown1 hgrow hat hlt3; have t0 := cell_of_row w3 O p _ _ _ (HO2.out w3 hgrow); have t1 := frozen_of_row w3 O p _ _ (HO2.out w3 hgrow); rw [hov] at t0)
          all_goals
            have HE := hide (HST.out w3 gg cap hown1 hgrow hat)
            clear hown1 hgrow hat
            go_wp2
            go_roundw
            case rel =>
              obtain ⟨vs', h1⟩ := HE.out
              exact ⟨c + 1, vs', by go_num, by omega, h1⟩
            case measure => simp [intOf]; omega
        · have hce : c = L := by omega
          subst hce
          have HE : Hid (FlIn w O n (fB F (k + 1)) vs wr) := ⟨HR.out.1.below, by
            have := HR.out.1.outs
            rw [← HLE.out] at this
            exact this.congr fun p hp => fC_all F n k hp⟩
          clear HR
          go_wp2
          go_roundw
          case rel => exact ⟨k + 1, vs, by go_num, by omega, HE.out⟩
          case measure => simp [intOf]; omega
    · have hke : k = n := by omega
      subst hke
      go_wp2
      go_ret
      exact ⟨O, vs0, rfl, by rw [HFE.out]; exact HR.out.outs, by rw [HO.out]; omega, by rw [HO.out]; exact HR.out.below⟩
end Go.Proofs.YtojkdmkeankcgaaGreat
