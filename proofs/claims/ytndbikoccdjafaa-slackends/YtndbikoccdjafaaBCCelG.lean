/-
  Several texts in one: CCel CSty CCar CLPlain CLInts.
-/
import Derived.Deep.RegionHeld3
import Derived.Test.YtndbikoccdjafaaProg
import Derived.WalkKit
import Derived.WalkSpells
import Derived.WalkLawsBesides
import Derived.Deep.QuietTactic
import Derived.BigQuiet
import Derived.BigRegion
import Derived.Deep.RegionWith
import Derived.Deep.RegionHeld
import Derived.Laws.AppendOwnNone
import Derived.Laws.OwnMore
import Derived.Shelf.Abstract
import Derived.Test.YtndbikoccdjafaaBCHWalkG
import Derived.Test.YtndbikoccdjafaaBCStpAG
import Derived.Test.YtndbikoccdjafaaBCAskG
namespace Go.Proofs.Ytndbikoccdjafaa
open Go.RowKit
def cellM (m : Mat) (f t : Int) : Int := if (upB f (m.n - 1) && upB t (m.n - 1)) = true then m.cells[(f * m.n + t).toNat]! else -1
def SqM (m : Mat) : Prop := 1 ≤ m.n ∧ m.n ≤ 32 ∧ (m.cells.length : Int) = m.n * m.n
theorem sq_of_mat {n : Int} {m : Mat} (h : matB n m = true) (h1 : 1 ≤ n) (h2 : n ≤ 32) : SqM m := by
 unfold matB at h
 simp only [Bool.and_eq_true,decide_eq_true_eq] at h
 obtain ⟨⟨rfl,h4⟩,_⟩ := h
 exact ⟨h1,h2,h4⟩
set_option maxRecDepth 100000 in
set_option maxHeartbeats 3200000 in
theorem cell_any {w : World} {x : Value} {m : Mat} (h : IntsV w x m.cells) (hm : SqM m) (f t : Int) : Calls Try.prog 60 #[.agg #[.int .i64 m.n,x],.int .i64 f,.int .i64 t] w fun e w' => e = .returned (.int .i64 (cellM m f t)) ∧ Below w.heap.size w w' := by
 obtain ⟨a,c,rfl,_,hl,hA⟩ := h
 have HA := hide hA
 have HB0 : Hid (∀ A,Below w.heap.size w (w.alloc A)) := fun A => (Below.refl _ _).alloc (Nat.le_refl _) A
 obtain ⟨n,L⟩ := m
 obtain ⟨hn1,hn2,hn3⟩ := hm
 simp only at hn1 hn2 hn3 HA hl ⊢
 clear hA
 obtain ⟨nn,rfl⟩ : ∃ nn : Nat,n = (nn : Int) := ⟨n.toNat,by omega⟩
 obtain ⟨ll,hll⟩ : ∃ k,L.length = k := ⟨_,rfl⟩
 have HLL := hide hll
 rw [hll] at hn3 hl ⊢
 obtain ⟨N2,hN⟩ : ∃ N2 : Nat,nn * nn = N2 := ⟨_,rfl⟩
 have HNN := hide hN
 have hl2 : ll = N2 := by rw [← hN];exact Int.ofNat_inj.1 (by rw [hn3];simp)
 subst hl2
 have hN1 : ll ≤ 1024 := by rw [← hN];exact (Nat.mul_le_mul (show nn ≤ 32 by omega) (show nn ≤ 32 by omega) : nn * nn ≤ 32 * 32)
 clear hN hn3 hll
 obtain ⟨b1,h1⟩ : ∃ b,upB f ((nn : Int) - 1) = b := ⟨_,rfl⟩
 obtain ⟨b2,h2⟩ : ∃ b,upB t ((nn : Int) - 1) = b := ⟨_,rfl⟩
 have H1 := hide h1
 have H2 := hide h2
 unfold cellM
 simp only
 rw [h1,h2]
 clear h1 h2
 cases b1 with
 | false =>
  go_enter Try.func60,Try.ntmps60
  go_wp2_with (go_at_call 90;refine (below_any _ _ _).mono ?_;rintro e w' ⟨rfl,rfl⟩;rw [H1.out])
  go_ret
  exact ⟨by simp,HB0.out _⟩
 | true =>
  cases b2 with
  | false =>
   go_enter Try.func60,Try.ntmps60
   go_wp2_with (go_at_call 90;refine (below_any _ _ _).mono ?_;rintro e w' ⟨rfl,rfl⟩;first | rw [H1.out] | rw [H2.out])
   go_ret
   exact ⟨by simp,HB0.out _⟩
  | true =>
   obtain ⟨k1,k2⟩ := upB_iff.1 H1.out
   obtain ⟨k3,k4⟩ := upB_iff.1 H2.out
   obtain ⟨i,rfl⟩ : ∃ i : Nat,f = (i : Int) := ⟨f.toNat,by omega⟩
   obtain ⟨k,rfl⟩ : ∃ i : Nat,t = (i : Int) := ⟨t.toNat,by omega⟩
   have hlt : i < nn := by omega
   have hkt : k < nn := by omega
   obtain ⟨P,hP⟩ : ∃ P : Nat,i * nn = P := ⟨_,rfl⟩
   have hPi : (i : Int) * (nn : Int) = (P : Int) := by rw [← hP];simp
   have hPP : P + nn ≤ ll := by rw [← hP,← HNN.out];exact mul_lt' hlt
   have HJ : Hid (P + k < L.length) := by show _ < _;have := HLL.out;omega
   obtain ⟨b,off,rfl,c1⟩ := (HA.out.alloc (.cells #[.int .i64 nn,.slice a ll c] 24)) (P + k) HJ.out
   have hD : (ll : Int) / (nn : Int) = (nn : Int) := by
    have := HNN.out
    rw [← this]
    simp only [Int.natCast_mul]
    exact Int.mul_ediv_cancel _ (by omega)
   have hD2 : Int.tdiv (ll : Int) (nn : Int) = (nn : Int) := by rw [Int.tdiv_eq_ediv_of_nonneg (by omega)];exact hD
   have i5 : (P : Int) + (k : Int) < (ll : Int) := by omega
   have i6 : ¬ (ll : Int) ≤ (P : Int) + (k : Int) := by omega
   have i7 : ¬ (nn : Int) < (i : Int) := by omega
   have i8 : P + k < ll := by omega
   have E : Hid (((i : Int) * (nn : Int) + (k : Int)).toNat = P + k) := by show _ = _;rw [hPi];omega
   rw [E.out]
   generalize L[P + k]! = z at c1
   clear hP k1 k2 k3 k4
   go_enter Try.func60,Try.ntmps60
   go_wp2_with (go_at_call 90;refine (below_any _ _ _).mono ?_;rintro e w' ⟨rfl,rfl⟩;first | rw [H1.out] | rw [H2.out])
   go_ret
   exact ⟨by simp,HB0.out _⟩
set_option maxRecDepth 100000 in
set_option maxHeartbeats 3200000 in
theorem rcell_any {w : World} {x : Value} {m : Mat} (h : IntsV w x m.cells) (hm : SqM m) (f t : Int) : Calls Try.prog 40 #[.agg #[.int .i64 m.n,x],.int .i64 f,.int .i64 t] w fun e w' => e = .returned (.int .i64 (cellM m f t)) ∧ Below w.heap.size w w' := by
 obtain ⟨a,c,rfl,_,hl,hA⟩ := h
 have HA := hide hA
 have HB0 : Hid (∀ A,Below w.heap.size w (w.alloc A)) := fun A => (Below.refl _ _).alloc (Nat.le_refl _) A
 obtain ⟨n,L⟩ := m
 obtain ⟨hn1,hn2,hn3⟩ := hm
 simp only at hn1 hn2 hn3 HA hl ⊢
 clear hA
 obtain ⟨nn,rfl⟩ : ∃ nn : Nat,n = (nn : Int) := ⟨n.toNat,by omega⟩
 obtain ⟨ll,hll⟩ : ∃ k,L.length = k := ⟨_,rfl⟩
 have HLL := hide hll
 rw [hll] at hn3 hl ⊢
 obtain ⟨N2,hN⟩ : ∃ N2 : Nat,nn * nn = N2 := ⟨_,rfl⟩
 have HNN := hide hN
 have hl2 : ll = N2 := by rw [← hN];exact Int.ofNat_inj.1 (by rw [hn3];simp)
 subst hl2
 have hN1 : ll ≤ 1024 := by rw [← hN];exact (Nat.mul_le_mul (show nn ≤ 32 by omega) (show nn ≤ 32 by omega) : nn * nn ≤ 32 * 32)
 clear hN hn3 hll
 obtain ⟨b1,h1⟩ : ∃ b,upB f ((nn : Int) - 1) = b := ⟨_,rfl⟩
 obtain ⟨b2,h2⟩ : ∃ b,upB t ((nn : Int) - 1) = b := ⟨_,rfl⟩
 have H1 := hide h1
 have H2 := hide h2
 unfold cellM
 simp only
 rw [h1,h2]
 clear h1 h2
 cases b1 with
 | false =>
  go_enter Try.func40,Try.ntmps40
  go_wp2_with (go_at_call 63;refine (up_any _ _ _).mono ?_;rintro e w' ⟨rfl,rfl⟩;rw [H1.out])
  go_ret
  exact ⟨by simp,HB0.out _⟩
 | true =>
  cases b2 with
  | false =>
   go_enter Try.func40,Try.ntmps40
   go_wp2_with (go_at_call 63;refine (up_any _ _ _).mono ?_;rintro e w' ⟨rfl,rfl⟩;first | rw [H1.out] | rw [H2.out])
   go_ret
   exact ⟨by simp,HB0.out _⟩
  | true =>
   obtain ⟨k1,k2⟩ := upB_iff.1 H1.out
   obtain ⟨k3,k4⟩ := upB_iff.1 H2.out
   obtain ⟨i,rfl⟩ : ∃ i : Nat,f = (i : Int) := ⟨f.toNat,by omega⟩
   obtain ⟨k,rfl⟩ : ∃ i : Nat,t = (i : Int) := ⟨t.toNat,by omega⟩
   have hlt : i < nn := by omega
   have hkt : k < nn := by omega
   obtain ⟨P,hP⟩ : ∃ P : Nat,i * nn = P := ⟨_,rfl⟩
   have hPi : (i : Int) * (nn : Int) = (P : Int) := by rw [← hP];simp
   have hPP : P + nn ≤ ll := by rw [← hP,← HNN.out];exact mul_lt' hlt
   have HJ : Hid (P + k < L.length) := by show _ < _;have := HLL.out;omega
   obtain ⟨b,off,rfl,c1⟩ := (HA.out.alloc (.cells #[.int .i64 nn,.slice a ll c] 24)) (P + k) HJ.out
   have i5 : (P : Int) + (k : Int) < (ll : Int) := by omega
   have i8 : P + k < ll := by omega
   have E : Hid (((i : Int) * (nn : Int) + (k : Int)).toNat = P + k) := by show _ = _;rw [hPi];omega
   rw [E.out]
   generalize L[P + k]! = z at c1
   clear hP k1 k2 k3 k4
   go_enter Try.func40,Try.ntmps40
   go_wp2_with (go_at_call 63;refine (up_any _ _ _).mono ?_;rintro e w' ⟨rfl,rfl⟩;first | rw [H1.out] | rw [H2.out])
   go_ret
   exact ⟨by simp,HB0.out _⟩
end Go.Proofs.Ytndbikoccdjafaa
namespace Go.Proofs.Ytndbikoccdjafaa
open Go.RowKit
theorem hr_wins {w : World} {a : Option Addr} {m : Nat} {L : List Win} (h : WinsAt w a m L) : Hr.WinsAt w a m L := ⟨h.len,h.max,h.cell⟩
end Go.Proofs.Ytndbikoccdjafaa
namespace Go.Proofs.Ytndbikoccdjafaa
open Go.RowKit
theorem veh_cells {w : World} {v : Value} {L : List Veh} {k : Nat} (h : VehsV w v L) (hk : k < L.length) : ∃ b off c xc xb,v = .slice (some ⟨b,off,none⟩) L.length c ∧ b < w.heap.size ∧ (∀ j,j < 11 → w.cell? ⟨b,off + k * 11 + j,none⟩ = (vehE (L.getD k vz) xc xb)[j]?) ∧ IntsV w xc (L.getD k vz).cap ∧ BrksV w xb (L.getD k vz).brks := by
 obtain ⟨a,c,rfl,_,_,hc⟩ := h
 obtain ⟨b,off,l,rfl,hl,hcs,xc,xb,rfl,q1,q2,_⟩ := hc k hk
 have h0 : w.cell? ⟨b,off + k * 11 + 0,none⟩ = some _ := hcs 0 (by decide)
 exact ⟨b,off,c,xc,xb,rfl,block_lt_of_cell h0,hcs,q1,q2⟩
end Go.Proofs.Ytndbikoccdjafaa
namespace Go.Proofs.Ytndbikoccdjafaa.Ld
def underB (xs ys : List Int) : Bool := decide (xs.length = ys.length ∧ ∀ i,i < xs.length → xs[i]! ≤ ys[i]!)
theorem underB_ne {xs ys : List Int} (h : xs.length ≠ ys.length) : underB xs ys = false := decide_eq_false fun h' => h h'.1
theorem underB_ok {xs ys : List Int} (h : xs.length = ys.length) (ho : ∀ i,i < xs.length → xs[i]! ≤ ys[i]!) : underB xs ys = true := decide_eq_true ⟨h,ho⟩
theorem underB_no {xs ys : List Int} {k : Nat} (hk : k < xs.length) (h : ¬ xs[k]! ≤ ys[k]!) : underB xs ys = false := decide_eq_false fun h' => h (h'.2 k hk)
theorem list_ext {xs ys : List Int} (h : xs.length = ys.length) (ho : ∀ i,i < xs.length → xs[i]! = ys[i]!) : xs = ys := by
 apply List.ext_getElem h
 intro i h1 h2
 have := ho i h1
 rwa [getElem!_pos _ i h1,getElem!_pos _ i h2] at this
end Go.Proofs.Ytndbikoccdjafaa.Ld
namespace Go.Proofs.Ytndbikoccdjafaa.Ld
open Go.RowKit
theorem hide {p : Prop} (h : p) : Hid p := h
theorem drewN_heap (w : World) (n : Nat) : (w.drewN n).heap = w.heap := by
 induction n with
 | zero => rfl
 | succ n ih => exact ih
theorem below_drewN {B : Nat} {a w : World} (h : Below B a w) (n : Nat) : Below B a (w.drewN n) := ⟨h.os,h.tape,h.output,by rw [drewN_heap];exact h.size,fun k hk => by rw [drewN_heap];exact h.block k hk⟩
def IntsAt (w : World) (a : Option Addr) (zs : List Int) : Prop := ∀ k,k < zs.length → ∃ b off,a = some ⟨b,off,none⟩ ∧ w.cell? ⟨b,off + k,none⟩ = some (.int .i64 zs[k]!)
theorem IntsAt.later {w w' : World} {a : Option Addr} {zs : List Int} (h : IntsAt w a zs) (f : Below w.heap.size w w') : IntsAt w' a zs := fun k hk => by
 obtain ⟨b,off,e,h1⟩ := h k hk
 exact ⟨b,off,e,(f.cell (p := ⟨b,_,none⟩) (block_lt_of_cell h1)).trans h1⟩
def intsV (xs : List Int) : List Value := xs.map (Value.int .i64 ·)
theorem intsV_len (xs : List Int) : (intsV xs).length = xs.length := by simp [intsV]
def IRow (w : World) (base : Nat) (v : Value) (xs : List Int) : Prop := w.ownsRow base 3 1 v xs.length (intsV xs)
theorem info3 : (Try.prog.info? 3).map (fun i => (i.zero,i.size,i.bytes)) = some (some (.int .i64 0),1,8) := by kernel_rfl
section
variable {w w' : World} {base g cap m : Nat} {v : Value} {xs : List Int}
end
theorem made_ints (n : Nat) (hn : n ≤ 1000) (w : World) : (Instr.makeSlice 22 (.int .i64 n) (.int .i64 n)).run Try.prog w = .ok (.slice (some ⟨w.heap.size,0,none⟩) n n) (w.alloc (.cells (Array.replicate n (.int .i64 0)) 3)) := by
 obtain ⟨i0,hi0,hz0,hz1,hz2⟩ := info_parts info3
 have := run_makeSlice (P := Try.prog) w 22 3 i0 _ Try.underlying22 hi0 hz0 .i64 .i64 n n (by omega) (by omega) (by rw [hz1];omega) (by rw [hz2];omega) (by omega)
 rw [hz1] at this
 simp only [Int.toNat_natCast,Nat.mul_one] at this
 have e : madeCells (Value.int .i64 0).cells n = Array.replicate n (Value.int .i64 0) := by
  apply Array.ext
  ·simp [madeCells]
  ·intro i h1 h2
   simp [madeCells,Value.cells,Nat.mod_one]
 rw [e] at this
 exact this
theorem irow_made (w : World) {base n : Nat} (hb : base ≤ w.heap.size) (hn : n ≤ 1000) : IRow (w.alloc (.cells (Array.replicate n (.int .i64 0)) 3)) base (.slice (some ⟨w.heap.size,0,none⟩) n n) (List.replicate n 0) := by
 have e : intsV (List.replicate n 0) = List.replicate n (.int .i64 0) := by simp [intsV]
 refine ⟨by rw [intsV_len];omega,.inr ⟨w.heap.size,n,(Array.replicate n (.int .i64 0)),by simp,hb,heap_alloc_new _ _,by simp,by unfold maxLen;omega,by simp,by rw [e];simp⟩⟩
end Go.Proofs.Ytndbikoccdjafaa.Ld
