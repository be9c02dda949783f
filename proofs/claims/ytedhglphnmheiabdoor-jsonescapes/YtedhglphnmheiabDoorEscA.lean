/-
  What the law of escapes (JsonEscapes) calls: the closure that writes a half, the document's Put.
-/
import Derived.Test.YtedhglphnmheiabDoorEscPlain
import Derived.Deep.RegionHeld
namespace Go.Proofs.YtedhglphnmheiabDoor
open Go.RowKit

def digsL (small : Bool) : List UInt8 := if small then [48, 49, 50, 51, 52, 53, 54, 55, 56, 57, 97, 98, 99, 100, 101, 102] else [48, 49, 50, 51, 52, 53, 54, 55, 56, 57, 65, 66, 67, 68, 69, 70]
theorem mask15 (x : Nat) : x &&& 15 = x % 16 := Nat.and_two_pow_sub_one_eq_mod x 4
theorem ofInt64 (x : Nat) (h : x < 18446744073709551616) : (BitVec.ofInt 64 (x : Int)).toNat = x := by
  rw [BitVec.toNat_ofInt]; omega
theorem wrap_small (x : Nat) (h : x < 9223372036854775808) : IntKind.i64.wrap (x : Int) = x := by
  unfold IntKind.wrap; simp [IntKind.signed, IntKind.bits]; omega
theorem and15 (x : Nat) (h : x < 9223372036854775808) : bits .and .i64 (x : Int) 15 = ((x % 16 : Nat) : Int) := by
  show IntKind.i64.wrap ((BitVec.ofInt 64 (x : Int) &&& BitVec.ofInt 64 ((15 : Nat) : Int)).toNat : Int) = _
  rw [BitVec.toNat_and, ofInt64 x (by omega), ofInt64 15 (by omega), mask15]
  exact wrap_small _ (by omega)
theorem and15_div (x p : Nat) (h : x < 9223372036854775808) : bits .and .i64 ((x : Int) / (p : Int)) 15 = ((x / p % 16 : Nat) : Int) := by
  rw [← Int.natCast_ediv]
  exact and15 _ (Nat.lt_of_le_of_lt (Nat.div_le_self x p) h)
theorem digs_at (small : Bool) (d : Nat) (hd : d < 16) : (digsL small)[d]? = some (hexD small d) := by
  have : ([true, false].all fun b => (List.range 16).all fun d => (digsL b)[d]? == some (hexD b d)) = true := by decide +kernel
  have h1 := List.all_eq_true.1 (List.all_eq_true.1 this small (by cases small <;> simp)) d (List.mem_range.2 hd)
  simpa using h1
theorem conv_four (w : World) (p q r s : UInt8) : (convert 24 9 (.slice (some ⟨w.heap.size, 0, none⟩) 4 4)).run Tryd.prog (w.alloc (.cells #[.int .u8 p.toNat, .int .u8 q.toNat, .int .u8 r.toNat, .int .u8 s.toNat] 5)).drew = .ok (.string ⟨#[p, q, r, s]⟩) (w.alloc (.cells #[.int .u8 p.toNat, .int .u8 q.toNat, .int .u8 r.toNat, .int .u8 s.toNat] 5)).drew := by
  refine run_convert_bytes_back (P := Tryd.prog) _ 24 9 5 ⟨w.heap.size, 0, none⟩ 4 [p, q, r, s] Tryd.underlying24 Tryd.underlying5 Tryd.underlying9 ?_
  intro j hj
  have hadd : (⟨w.heap.size, 0, none⟩ : Addr).add j = ⟨w.heap.size, j, none⟩ := by unfold Addr.add; split <;> simp_all
  rw [hadd, cell_of_row _ w.heap.size j _ _ _ (show (w.alloc _).drew.heap[w.heap.size]? = _ from heap_alloc_new w _)]
  have : j = 0 ∨ j = 1 ∨ j = 2 ∨ j = 3 := by simp at hj; omega
  rcases this with rfl | rfl | rfl | rfl <;> rfl
theorem dig_get {D : List UInt8} {d : Nat} {c : UInt8} (h : D[d]? = some c) (w : World) : (Instr.index 9 (.string ⟨D.toArray⟩) (.int .i64 (d : Int))).run Tryd.prog w = .ok (.int .u8 c.toNat) w := by
  have hd2 : d < D.length := (List.getElem?_eq_some_iff.1 h).1
  have hs : (⟨D.toArray⟩ : ByteArray).size = D.length := by simp [ByteArray.size]
  have hg : (⟨D.toArray⟩ : ByteArray)[d]'(by rw [hs]; exact hd2) = c := by
    rw [List.getElem?_eq_getElem hd2] at h
    show (D.toArray)[d]'(by simpa using hd2) = c
    simpa using h
  simp [Instr.index, go_sem, run_underlying Tryd.underlying9, hs, hd2, hg]
set_option maxRecDepth 100000 in
set_option maxHeartbeats 6400000 in
theorem half_any (small : Bool) (n dg : Nat) (hn : n < 1114112) (w : World) (hd : w.cell? ⟨dg, 0, none⟩ = some (.string ⟨(digsL small).toArray⟩)) :
    Calls Tryd.prog 10 #[.int .i64 n, .pointer (some ⟨dg, 0, none⟩)] w fun e w' => e = .returned (.string ⟨(halfL small n).toArray⟩) ∧ Below w.heap.size w w' := by
  obtain ⟨a, hae, ha⟩ : ∃ a, Hid (n / 4096 % 16 = a) ∧ bits .and .i64 ((n : Int) / 4096) 15 = (a : Int) := ⟨_, rfl, and15_div n 4096 (by omega)⟩
  obtain ⟨b, hbe, hb⟩ : ∃ a, Hid (n / 256 % 16 = a) ∧ bits .and .i64 ((n : Int) / 256) 15 = (a : Int) := ⟨_, rfl, and15_div n 256 (by omega)⟩
  obtain ⟨c, hce, hc⟩ : ∃ a, Hid (n / 16 % 16 = a) ∧ bits .and .i64 ((n : Int) / 16) 15 = (a : Int) := ⟨_, rfl, and15_div n 16 (by omega)⟩
  obtain ⟨d, hde, hdd⟩ : ∃ a, Hid (n % 16 = a) ∧ bits .and .i64 (n : Int) 15 = (a : Int) := ⟨_, rfl, and15 n (by omega)⟩
  have a16 : a < 16 := by rw [← hae.out]; omega
  have b16 : b < 16 := by rw [← hbe.out]; omega
  have c16 : c < 16 := by rw [← hce.out]; omega
  have d16 : d < 16 := by rw [← hde.out]; omega
  have a16' : (a : Int) < 16 := by omega
  have b16' : (b : Int) < 16 := by omega
  have c16' : (c : Int) < 16 := by omega
  have d16' : (d : Int) < 16 := by omega
  have HH : Hid (halfL small n = [92, 117, hexD small a, hexD small b, hexD small c, hexD small d]) := by show _ = _; unfold halfL; rw [hae.out, hbe.out, hce.out, hde.out]
  obtain ⟨D, hD⟩ : ∃ D, Hid (digsL small = D) := ⟨_, rfl⟩
  have hDl : D.length = 16 := by rw [← hD.out]; cases small <;> rfl
  have hDa : ∀ w, (Instr.index 9 (.string ⟨D.toArray⟩) (.int .i64 (a : Int))).run Tryd.prog w = .ok (.int .u8 (hexD small a).toNat) w := fun w => dig_get (by rw [← hD.out]; exact digs_at small a a16) w
  have hDb : ∀ w, (Instr.index 9 (.string ⟨D.toArray⟩) (.int .i64 (b : Int))).run Tryd.prog w = .ok (.int .u8 (hexD small b).toNat) w := fun w => dig_get (by rw [← hD.out]; exact digs_at small b b16) w
  have hDc : ∀ w, (Instr.index 9 (.string ⟨D.toArray⟩) (.int .i64 (c : Int))).run Tryd.prog w = .ok (.int .u8 (hexD small c).toNat) w := fun w => dig_get (by rw [← hD.out]; exact digs_at small c c16) w
  have hDd : ∀ w, (Instr.index 9 (.string ⟨D.toArray⟩) (.int .i64 (d : Int))).run Tryd.prog w = .ok (.int .u8 (hexD small d).toNat) w := fun w => dig_get (by rw [← hD.out]; exact digs_at small d d16) w
  rw [hD.out] at hd
  go_enter Tryd.func10, Tryd.ntmps10
  go_wp2
  have hcv := conv_four
  go_region_held (fun w' => w'.cell? ⟨dg, 0, none⟩ = some (.string ⟨D.toArray⟩)) (go_keep) (fail)
  all_goals
    go_wp2
    go_ret
    refine ⟨?_, ((Below.refl _ _).alloc (Nat.le_refl _) _).drew⟩
    rw [HH.out]
    rfl
end Go.Proofs.YtedhglphnmheiabDoor
