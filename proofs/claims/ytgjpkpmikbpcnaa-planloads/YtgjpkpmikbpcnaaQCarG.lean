/-
  Several texts in one: Car LPlain LNumW LInts.
-/
import Derived.Test.YtgjpkpmikbpcnaaProg
import Derived.WalkKit
import Derived.WalkSpells
import Derived.WalkLawsBesides
import Derived.Deep.QuietTactic
import Derived.BigQuiet
import Derived.BigRegion
import Derived.Deep.RegionWith
import Derived.Deep.RegionHeld
import Derived.Laws.AppendOwnNone
import Derived.Laws.OwnMore
import Derived.Shelf.Abstract
import Derived.Test.YtgjpkpmikbpcnaaQCelG
import Derived.Test.YtgjpkpmikbpcnaaQSmallG
namespace Go.Proofs.Ytgjpkpmikbpcnaa
open Go.RowKit
/-- A tour as cells: the problem, the vehicle's number, the visits. -/
def tourE (p : Prb) (x : PrbS) (vi : Int) (vs : Value) : Array Value := #[.int .i64 p.dims, .int .i64 p.time.n, x.t, .int .i64 p.dist.n, x.d, x.v, x.j, x.s, .int .i64 vi, vs]
def vehA (v : Veh) (xc xb : Value) : Array Value := #[.int .i64 v.start, .int .i64 v.stop, xc, .int .u64 v.skills, .int .i64 v.shift.1, .int .i64 v.shift.2, .int .i64 v.fixed, .int .i64 v.perT, .int .i64 v.perD, .int .i64 v.maxT, xb]
theorem veh_cells {w : World} {v : Value} {L : List Veh} {k : Nat} (h : VehsV w v L) (hk : k < L.length) : ∃ b off c xc xb, v = .slice (some ⟨b, off, none⟩) L.length c ∧ b < w.heap.size ∧ (∀ j, j < 11 → w.cell? ⟨b, off + k * 11 + j, none⟩ = (vehE (L.getD k vz) xc xb)[j]?) ∧ IntsV w xc (L.getD k vz).cap ∧ BrksV w xb (L.getD k vz).brks := by
  obtain ⟨a, c, rfl, _, _, hc⟩ := h
  obtain ⟨b, off, l, rfl, hl, hcs, xc, xb, rfl, q1, q2, _⟩ := hc k hk
  have h0 : w.cell? ⟨b, off + k * 11 + 0, none⟩ = some _ := hcs 0 (by decide)
  exact ⟨b, off, c, xc, xb, rfl, block_lt_of_cell h0, hcs, q1, q2⟩
set_option maxRecDepth 100000 in
set_option maxHeartbeats 3200000 in
theorem car_any {w : World} {x : PrbS} {p : Prb} {k m vc : Nat} {va : Option Addr} (h : PrbV w x p) (hk : k < p.vs.length) : Calls Try.prog 74 #[.agg (tourE p x k (.slice va m vc))] w fun e w' => ∃ xc xb, e = .returned (.agg (vehA (p.vs.getD k vz) xc xb)) ∧ IntsV w' xc (p.vs.getD k vz).cap ∧ BrksV w' xb (p.vs.getD k vz).brks ∧ Below w.heap.size w w' := by
  obtain ⟨b, off, cc, xc, xb, he, hb, hcs, q1, q2⟩ := veh_cells h.v hk
  have hbd := SlV.bound h.v
  obtain ⟨ta, tc, da, dc, va', vc', ja, jc, sa, sc, rfl⟩ := h.open
  simp only at he
  injection he with he1 _ he3
  subst he1 he3
  obtain ⟨ca, c1, rfl⟩ := q1.shape
  obtain ⟨ba, c2, rfl⟩ := SlV.shape q2
  obtain ⟨V, hV⟩ : ∃ V, p.vs.getD k vz = V := ⟨_, rfl⟩
  rw [hV] at hcs q1 q2 ⊢
  clear hV
  obtain ⟨lc, hlc⟩ : ∃ q, V.cap.length = q := ⟨_, rfl⟩
  obtain ⟨lb, hlb⟩ : ∃ q, V.brks.length = q := ⟨_, rfl⟩
  rw [hlc, hlb] at hcs
  rw [hlc] at q1
  rw [hlb] at q2
  clear hlc hlb
  have c0v : w.cell? ⟨b, off + k * 11, none⟩ = some (.int .i64 V.start) := hcs 0 (by decide)
  have c1v : w.cell? ⟨b, off + k * 11 + 1, none⟩ = some (.int .i64 V.stop) := hcs 1 (by decide)
  have c2v : w.cell? ⟨b, off + k * 11 + 2, none⟩ = some (.slice ca lc c1) := hcs 2 (by decide)
  have c3v : w.cell? ⟨b, off + k * 11 + 3, none⟩ = some (.int .u64 V.skills) := hcs 3 (by decide)
  have c4v : w.cell? ⟨b, off + k * 11 + 4, none⟩ = some (.int .i64 V.shift.1) := hcs 4 (by decide)
  have c5v : w.cell? ⟨b, off + k * 11 + 5, none⟩ = some (.int .i64 V.shift.2) := hcs 5 (by decide)
  have c6v : w.cell? ⟨b, off + k * 11 + 6, none⟩ = some (.int .i64 V.fixed) := hcs 6 (by decide)
  have c7v : w.cell? ⟨b, off + k * 11 + 7, none⟩ = some (.int .i64 V.perT) := hcs 7 (by decide)
  have c8v : w.cell? ⟨b, off + k * 11 + 8, none⟩ = some (.int .i64 V.perD) := hcs 8 (by decide)
  have c9v : w.cell? ⟨b, off + k * 11 + 9, none⟩ = some (.int .i64 V.maxT) := hcs 9 (by decide)
  have c10v : w.cell? ⟨b, off + k * 11 + 10, none⟩ = some (.slice ba lb c2) := hcs 10 (by decide)
  have HQ1 := hide q1
  have HQ2 := hide q2
  have HB0 : Hid (∀ A B, Below w.heap.size w ((w.alloc A).alloc B)) := fun A B => ((Below.refl _ _).alloc (Nat.le_refl _) A).alloc (by simp) B
  obtain ⟨ln, hln⟩ : ∃ q, p.vs.length = q := ⟨_, rfl⟩
  rw [hln] at hk hbd
  unfold tourE
  simp only
  rw [hln]
  have i1 : (0 : Int) ≤ (k : Int) := by omega
  have i2 : (k : Int) < (ln : Int) := by omega
  have i3 : ¬ (ln : Int) ≤ (k : Int) := by omega
  have n0 : ¬ b = w.heap.size := by omega
  have n1 : ¬ b = w.heap.size + 1 := by omega
  clear hcs q1 q2 h hln
  go_enter Try.func74, Try.ntmps74
  go_wp2
  refine bodyPost_ret (v := .agg (vehA V (.slice ca lc c1) (.slice ba lb c2))) ?_ rfl ⟨_, _, rfl, HQ1.out.on ?_, BrksV.on HQ2.out ?_, ?_⟩
  · simp [results, Try.results74, go_sem, vehA]
  all_goals (repeat (first | exact HB0.out _ _ | (refine Below.setCell ?_ (by simp) _) | refine Below.drew ?_))
end Go.Proofs.Ytgjpkpmikbpcnaa
namespace Go.Proofs.Ytgjpkpmikbpcnaa.Ld
/-- Is the number within the limit? -/
def fitsB (a : Int) : Bool := decide (-4611686018427387903 ≤ a ∧ a ≤ 4611686018427387903)
/-- The sum and its error. -/
def addOk (a b : Int) : Bool := fitsB a && fitsB b && fitsB (a + b)
def addV (a b : Int) : Int := bif addOk a b then a + b else 0
def addE (a b : Int) : Int := bif addOk a b then 0 else 10

theorem fitsB_iff (a : Int) : fitsB a = true ↔ -4611686018427387903 ≤ a ∧ a ≤ 4611686018427387903 := by simp [fitsB]
theorem fitsB_false (a : Int) : fitsB a = false ↔ a < -4611686018427387903 ∨ 4611686018427387903 < a := by
  simp [fitsB]; omega


/-- One dimension of a sum, a difference, the greater one: the number and its error. -/
def addF (x y : Int) : Int × Int := (addV x y, addE x y)
def subF (x y : Int) : Int × Int := if fitsB y = true then (addV x (-y), addE x (-y)) else (0, 10)
/-- Dimension by dimension, up to the first error. -/
def eachM (f : Int → Int → Int × Int) (xs ys : List Int) : List Int × Int :=
  if xs.length = ys.length then
    match (List.range xs.length).find? (fun i => decide ((f xs[i]! ys[i]!).2 ≠ 0)) with
    | some i => ([], (f xs[i]! ys[i]!).2)
    | none => ((List.range xs.length).map (fun i => (f xs[i]! ys[i]!).1), 0)
  else ([], 43)
theorem eachM_ne {f : Int → Int → Int × Int} {xs ys : List Int} (h : xs.length ≠ ys.length) : eachM f xs ys = ([], 43) := by
  unfold eachM; rw [if_neg h]
theorem eachM_ok {f : Int → Int → Int × Int} {xs ys : List Int} (h : xs.length = ys.length) (ho : ∀ i, i < xs.length → (f xs[i]! ys[i]!).2 = 0) : eachM f xs ys = ((List.range xs.length).map (fun i => (f xs[i]! ys[i]!).1), 0) := by
  unfold eachM
  rw [if_pos h, List.find?_eq_none.2 (fun i hi => by rw [ho i (List.mem_range.1 hi)]; decide)]
theorem eachM_bad {f : Int → Int → Int × Int} {xs ys : List Int} {k : Nat} (h : xs.length = ys.length) (hk : k < xs.length) (ho : ∀ i, i < k → (f xs[i]! ys[i]!).2 = 0) (he : (f xs[k]! ys[k]!).2 ≠ 0) : eachM f xs ys = ([], (f xs[k]! ys[k]!).2) := by
  unfold eachM
  rw [if_pos h]
  have : (List.range xs.length).find? (fun i => decide ((f xs[i]! ys[i]!).2 ≠ 0)) = some k := by
    rw [List.find?_eq_some_iff_append]
    refine ⟨by simpa using he, List.range k, (List.range (xs.length - (k + 1))).map (· + (k + 1)), ?_, fun i hi => ?_⟩
    · have e : List.range xs.length = List.range (k + 1) ++ (List.range (xs.length - (k + 1))).map (k + 1 + ·) := by
        rw [← List.range_add]; congr 1; omega
      rw [e, List.range_succ, List.append_assoc]
      simp [Nat.add_comm]
    · rw [ho i (List.mem_range.1 hi)]; decide
  rw [this]
/-- Nowhere above. -/
def underB (xs ys : List Int) : Bool := decide (xs.length = ys.length ∧ ∀ i, i < xs.length → xs[i]! ≤ ys[i]!)
theorem underB_ne {xs ys : List Int} (h : xs.length ≠ ys.length) : underB xs ys = false := decide_eq_false fun h' => h h'.1
theorem underB_ok {xs ys : List Int} (h : xs.length = ys.length) (ho : ∀ i, i < xs.length → xs[i]! ≤ ys[i]!) : underB xs ys = true := decide_eq_true ⟨h, ho⟩
theorem underB_no {xs ys : List Int} {k : Nat} (hk : k < xs.length) (h : ¬ xs[k]! ≤ ys[k]!) : underB xs ys = false := decide_eq_false fun h' => h (h'.2 k hk)
/-- The same numbers. -/
def sameB (xs ys : List Int) : Bool := decide (xs = ys)
theorem list_ext {xs ys : List Int} (h : xs.length = ys.length) (ho : ∀ i, i < xs.length → xs[i]! = ys[i]!) : xs = ys := by
  apply List.ext_getElem h
  intro i h1 h2
  have := ho i h1
  rwa [getElem!_pos _ i h1, getElem!_pos _ i h2] at this
theorem sameB_ne {xs ys : List Int} (h : xs.length ≠ ys.length) : sameB xs ys = false := decide_eq_false fun e => h (by rw [e])
theorem sameB_ok {xs ys : List Int} (h : xs.length = ys.length) (ho : ∀ i, i < xs.length → xs[i]! = ys[i]!) : sameB xs ys = true := decide_eq_true (list_ext h ho)
theorem sameB_no {xs ys : List Int} {k : Nat} (h : ¬ xs[k]! = ys[k]!) : sameB xs ys = false := decide_eq_false fun e => h (by rw [e])
end Go.Proofs.Ytgjpkpmikbpcnaa.Ld
namespace Go.Proofs.Ytgjpkpmikbpcnaa.Ld
open Go.RowKit
set_option maxHeartbeats 400000 in
theorem nfits_any (a : Int) (w : World) :
    Calls Try.prog 129 #[.int .i64 a] w fun e w' => e = .returned (.bool (fitsB a)) ∧ w' = w := by
  by_cases h1 : -4611686018427387903 ≤ a <;> by_cases h2 : a ≤ 4611686018427387903
  all_goals
    go_enter Try.func129, Try.ntmps129
    go_wp2
    go_ret
    exact ⟨by simp [fitsB, h1, h2], rfl⟩

set_option maxHeartbeats 400000 in
theorem fitting_any (a : Int) (w : World) :
    Calls Try.prog 130 #[.int .i64 a] w fun e w' => e = .returned (.tuple #[.int .i64 (bif fitsB a then a else 0), .int .i64 (bif fitsB a then 0 else 10)]) ∧ w' = w := by
  cases h : fitsB a
  all_goals
    go_enter Try.func130, Try.ntmps130
    go_wp2_with (go_at_call 129; refine (nfits_any _ _).mono ?_; rintro e w' ⟨rfl, rfl⟩)
    go_ret2
    exact ⟨by simp, rfl⟩

set_option maxHeartbeats 400000 in
theorem nadd_any (a b : Int) (w : World) :
    Calls Try.prog 116 #[.int .i64 a, .int .i64 b] w fun e w' => e = .returned (.tuple #[.int .i64 (addV a b), .int .i64 (addE a b)]) ∧ w' = w := by
  cases ha : fitsB a
  · go_enter Try.func116, Try.ntmps116
    go_wp2_with (first | (go_at_call 129; refine (nfits_any _ _).mono ?_; rintro e w' ⟨rfl, rfl⟩) | (go_at_call 130; refine (fitting_any _ _).mono ?_; rintro e w' ⟨rfl, rfl⟩))
    go_ret2
    exact ⟨by simp [addV, addE, addOk, ha], rfl⟩
  · cases hb : fitsB b
    · go_enter Try.func116, Try.ntmps116
      go_wp2_with (first | (go_at_call 129; refine (nfits_any _ _).mono ?_; rintro e w' ⟨rfl, rfl⟩) | (go_at_call 130; refine (fitting_any _ _).mono ?_; rintro e w' ⟨rfl, rfl⟩))
      go_ret2
      exact ⟨by simp [addV, addE, addOk, ha, hb], rfl⟩
    · have ha' := (fitsB_iff a).1 ha
      have hb' := (fitsB_iff b).1 hb
      obtain ⟨ha1, ha2⟩ := ha'
      obtain ⟨hb1, hb2⟩ := hb'
      go_enter Try.func116, Try.ntmps116
      go_wp2_with (first | (go_at_call 129; refine (nfits_any _ _).mono ?_; rintro e w' ⟨rfl, rfl⟩) | (go_at_call 130; refine (fitting_any _ _).mono ?_; rintro e w' ⟨rfl, rfl⟩))
      go_ret2
      exact ⟨by simp [addV, addE, addOk, ha, hb], rfl⟩

end Go.Proofs.Ytgjpkpmikbpcnaa.Ld
namespace Go.Proofs.Ytgjpkpmikbpcnaa.Ld
open Go.RowKit
theorem hide {p : Prop} (h : p) : Hid p := h
theorem add0 (g j : Nat) : (⟨g, 0, none⟩ : Addr).add j = ⟨g, j, none⟩ := by
  unfold Addr.add
  split
  · rename_i h; subst h; rfl
  · simp
theorem drewN_heap (w : World) (n : Nat) : (w.drewN n).heap = w.heap := by
  induction n with
  | zero => rfl
  | succ n ih => exact ih
theorem below_drewN {B : Nat} {a w : World} (h : Below B a w) (n : Nat) : Below B a (w.drewN n) := ⟨h.os, h.tape, h.output, by rw [drewN_heap]; exact h.size, fun k hk => by rw [drewN_heap]; exact h.block k hk⟩
/-- What a slice of numbers reads as. -/
def IntsAt (w : World) (a : Option Addr) (zs : List Int) : Prop := ∀ k, k < zs.length → ∃ b off, a = some ⟨b, off, none⟩ ∧ w.cell? ⟨b, off + k, none⟩ = some (.int .i64 zs[k]!)
theorem IntsAt.later {w w' : World} {a : Option Addr} {zs : List Int} (h : IntsAt w a zs) (f : Below w.heap.size w w') : IntsAt w' a zs := fun k hk => by
  obtain ⟨b, off, e, h1⟩ := h k hk
  exact ⟨b, off, e, (f.cell (p := ⟨b, _, none⟩) (block_lt_of_cell h1)).trans h1⟩
def intsV (xs : List Int) : List Value := xs.map (Value.int .i64 ·)
theorem intsV_len (xs : List Int) : (intsV xs).length = xs.length := by simp [intsV]
theorem intsV_get (xs : List Int) (k : Nat) (h : k < xs.length) : (intsV xs)[k]? = some (.int .i64 xs[k]!) := by
  simp [intsV, h]
theorem intsV_set (xs : List Int) (k : Nat) (x : Int) : intsV (xs.set k x) = (intsV xs).set k (.int .i64 x) := by simp [intsV, List.map_set]
/-- A row of whole numbers that lies at base or above. -/
def IRow (w : World) (base : Nat) (v : Value) (xs : List Int) : Prop := w.ownsRow base 3 1 v xs.length (intsV xs)
theorem info3 : (Try.prog.info? 3).map (fun i => (i.zero, i.size, i.bytes)) = some (some (.int .i64 0), 1, 8) := by kernel_rfl
section
variable {w w' : World} {base g cap m : Nat} {v : Value} {xs : List Int}
theorem own_of_block {base e size m : Nat} {v : Value} {xs : List Value} (h : w.ownsRow base e size v m xs) (hb : ∀ g, v.ownBlock = some g → w'.heap[g]? = w.heap[g]?) : w'.ownsRow base e size v m xs := by
  obtain ⟨h1, h2⟩ := h
  refine ⟨h1, ?_⟩
  rcases h2 with h2 | ⟨g, cap, cur, rfl, a, b, r⟩
  · exact .inl h2
  · exact .inr ⟨g, cap, cur, rfl, a, (hb g rfl).trans b, r⟩
theorem IRow.cell (h : IRow w base (.slice (some ⟨g, 0, none⟩) m cap) xs) (k : Nat) (hk : k < xs.length) : w.cell? ⟨g, k, none⟩ = some (.int .i64 xs[k]!) := by
  have := World.ownsRow.cells (g := g) h rfl k _ (intsV_get xs k hk)
  rw [add0] at this
  exact this
theorem IRow.frozen (h : IRow w base (.slice (some ⟨g, 0, none⟩) m cap) xs) (k : Nat) : w.frozen? ⟨g, k, none⟩ = false := by
  rcases h.2 with ⟨h2, _⟩ | ⟨g2, cap2, cur, e, _, hb, _⟩
  · cases h2
  · cases e; exact frozen_of_row w g k _ _ hb
theorem IRow.set (h : IRow w base (.slice (some ⟨g, 0, none⟩) m cap) xs) (k : Nat) (x : Int) : IRow (w.setCell ⟨g, k, none⟩ (.int .i64 x)) base (.slice (some ⟨g, 0, none⟩) m cap) (xs.set k x) := by
  obtain ⟨h1, h2⟩ := h
  unfold IRow
  rw [List.length_set, intsV_set]
  refine ⟨by simpa using h1, ?_⟩
  rcases h2 with ⟨h2, _⟩ | ⟨g2, cap2, cur, e, a, hb, r1, r2, r3, r4⟩
  · cases h2
  · cases e
    refine .inr ⟨g, cap, cur.setIfInBounds k (.int .i64 x), rfl, a, heap_setCell_same w g k _ _ _ hb, r1, r2, by simpa using r3, ?_⟩
    rw [← r4, Array.toList_setIfInBounds, List.take_set]
theorem IRow.later {B : Nat} (h : IRow w base v xs) (hB : w.heap.size ≤ B) (f : Below B w w') : IRow w' base v xs := own_of_block h (fun k hk => f.block k (Nat.lt_of_lt_of_le (h.lt k hk).2 hB))
theorem IRow.drewN (h : IRow w base v xs) (q : Nat) : IRow (w.drewN q) base v xs := h.later (Nat.le_refl _) (below_drewN (Below.refl _ _) q)
theorem IRow.mono {base' : Nat} (h : IRow w base v xs) (hb : base' ≤ base) : IRow w base' v xs := by
  obtain ⟨h1, h2⟩ := h
  refine ⟨h1, ?_⟩
  rcases h2 with h2 | ⟨g, cap, cur, e, a, r⟩
  · exact .inl h2
  · exact .inr ⟨g, cap, cur, e, Nat.le_trans hb a, r⟩
theorem irow_nil (w : World) (base : Nat) : IRow w base (.slice none 0 0) [] := World.ownsRow_nil _ _ _ _
end
/-- A slice of n zeros, just made. -/
theorem made_ints (n : Nat) (hn : n ≤ 1000) (w : World) : (Instr.makeSlice 22 (.int .i64 n) (.int .i64 n)).run Try.prog w = .ok (.slice (some ⟨w.heap.size, 0, none⟩) n n) (w.alloc (.cells (Array.replicate n (.int .i64 0)) 3)) := by
  obtain ⟨i0, hi0, hz0, hz1, hz2⟩ := info_parts info3
  have := run_makeSlice (P := Try.prog) w 22 3 i0 _ Try.underlying22 hi0 hz0 .i64 .i64 n n (by omega) (by omega) (by rw [hz1]; omega) (by rw [hz2]; omega) (by omega)
  rw [hz1] at this
  simp only [Int.toNat_natCast, Nat.mul_one] at this
  have e : madeCells (Value.int .i64 0).cells n = Array.replicate n (Value.int .i64 0) := by
    apply Array.ext
    · simp [madeCells]
    · intro i h1 h2
      simp [madeCells, Value.cells, Nat.mod_one]
  rw [e] at this
  exact this
theorem irow_made (w : World) {base n : Nat} (hb : base ≤ w.heap.size) (hn : n ≤ 1000) : IRow (w.alloc (.cells (Array.replicate n (.int .i64 0)) 3)) base (.slice (some ⟨w.heap.size, 0, none⟩) n n) (List.replicate n 0) := by
  have e : intsV (List.replicate n 0) = List.replicate n (.int .i64 0) := by simp [intsV]
  refine ⟨by rw [intsV_len]; omega, .inr ⟨w.heap.size, n, (Array.replicate n (.int .i64 0)), by simp, hb, heap_alloc_new _ _, by simp, by unfold maxLen; omega, by simp, by rw [e]; simp⟩⟩
end Go.Proofs.Ytgjpkpmikbpcnaa.Ld
