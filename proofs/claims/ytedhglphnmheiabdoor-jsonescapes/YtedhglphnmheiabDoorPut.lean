/-
  What the document's Put does of a rune: its UTF-8, behind nothing.
-/
import Derived.Test.YtedhglphnmheiabDoorModel
import Derived.Test.YtedhglphnmheiabDoorTree
namespace Go.Proofs.YtedhglphnmheiabDoor
open Go.RowKit

theorem info5' : (Tryd.prog.info? 5).map (fun i => (i.zero, i.size, i.bytes)) = some (some (.int .u8 0), 1, 1) := by kernel_rfl
theorem bytes_one' (l : List Int) : ∀ u ∈ l.map (Value.int .u8), u.oneCell' = true := by
  intro u hu
  obtain ⟨c, _, rfl⟩ := List.mem_map.1 hu
  rfl
theorem mask63 (x : Nat) : x &&& 63 = x % 64 := Nat.and_two_pow_sub_one_eq_mod x 6
theorem ofInt64' (x : Nat) (h : x < 18446744073709551616) : (BitVec.ofInt 64 (x : Int)).toNat = x := by
  rw [BitVec.toNat_ofInt]; omega
theorem wrap_small' (x : Nat) (h : x < 9223372036854775808) : IntKind.i64.wrap (x : Int) = x := by
  unfold IntKind.wrap; simp [IntKind.signed, IntKind.bits]; omega
theorem and63 (x : Nat) (h : x < 9223372036854775808) : bits .and .i64 (x : Int) 63 = ((x % 64 : Nat) : Int) := by
  show IntKind.i64.wrap ((BitVec.ofInt 64 (x : Int) &&& BitVec.ofInt 64 ((63 : Nat) : Int)).toNat : Int) = _
  rw [BitVec.toNat_and, ofInt64' x (by omega), ofInt64' 63 (by omega), mask63]
  exact wrap_small' _ (by omega)
theorem and63_div (x p : Nat) (h : x < 9223372036854775808) : bits .and .i64 ((x : Int) / (p : Int)) 63 = ((x / p % 64 : Nat) : Int) := by
  rw [← Int.natCast_ediv]
  exact and63 _ (Nat.lt_of_le_of_lt (Nat.div_le_self x p) h)
theorem or_add (i b v : Nat) (hv : v < 2 ^ i) (hs : 2 ^ i * b + v < 9223372036854775808) : bits .or .i64 ((2 ^ i * b : Nat) : Int) (v : Int) = ((2 ^ i * b + v : Nat) : Int) := by
  show IntKind.i64.wrap ((BitVec.ofInt 64 ((2 ^ i * b : Nat) : Int) ||| BitVec.ofInt 64 (v : Int)).toNat : Int) = _
  rw [BitVec.toNat_or, ofInt64' _ (by omega), ofInt64' _ (by omega), ← Nat.two_pow_add_eq_or_of_lt hv b]
  exact wrap_small' _ hs
theorem or128 (v : Nat) (hv : v < 64) : bits .or .i64 128 (v : Int) = ((128 + v : Nat) : Int) := or_add 7 1 v (by omega) (by omega)
theorem or192 (v : Nat) (hv : v < 32) : bits .or .i64 192 (v : Int) = ((192 + v : Nat) : Int) := or_add 6 3 v (by omega) (by omega)
theorem or224 (v : Nat) (hv : v < 16) : bits .or .i64 224 (v : Int) = ((224 + v : Nat) : Int) := or_add 5 7 v (by omega) (by omega)
theorem or240 (v : Nat) (hv : v < 8) : bits .or .i64 240 (v : Int) = ((240 + v : Nat) : Int) := or_add 4 15 v (by omega) (by omega)
theorem put_cells (w : World) (l : List Int) (j : Nat) (u : Value) (h : (l.map (Value.int .u8))[j]? = some u) : (w.alloc (.cells (l.map (Value.int .u8)).toArray 5)).cell? ((⟨w.heap.size, 0, none⟩ : Addr).add j) = some u := cells_new w _ 5 _ rfl j u h
theorem own_zero' {w : World} {base : Nat} {e : TypeId} {size : Nat} {v : Value} {n : Nat} {xs : List Value} (h : w.ownsRow base e size v n xs) : w.ownsRow 0 e size v n xs :=
  ⟨h.1, h.2.imp id (fun ⟨g, cap, cur, hv, _, r⟩ => ⟨g, cap, cur, hv, Nat.zero_le _, r⟩)⟩
set_option maxRecDepth 100000 in
set_option maxHeartbeats 1600000 in
theorem put_any (x : Nat) (hx : x < 1114112) (hs : ¬ (55296 ≤ x ∧ x < 57344)) (w : World) :
    Calls Tryd.prog 12 #[.slice none 0 0, .int .i64 x] w fun e w' => ∃ v, e = .returned v ∧ w'.ownsRow 0 5 1 v (Lib.encodeRune x).length (Lib.byteCells (Lib.encodeRune x)) ∧ Below w.heap.size w w' := by
  obtain ⟨i5, hi5, hz0, hz1, hz2⟩ := info_parts info5'
  rw [Lib.byteCells_encodeRune, ← Lib.runeCells_length]
  unfold Lib.runeCells
  obtain ⟨a1, he1, e1⟩ : ∃ a, Hid (x % 64 = a) ∧ bits .and .i64 (x : Int) 63 = (a : Int) := ⟨_, rfl, and63 x (by omega)⟩
  obtain ⟨a2, he2, e2⟩ : ∃ a, Hid (x / 64 % 64 = a) ∧ bits .and .i64 ((x : Int) / 64) 63 = (a : Int) := ⟨_, rfl, and63_div x 64 (by omega)⟩
  obtain ⟨a3, he3, e3⟩ : ∃ a, Hid (x / 4096 % 64 = a) ∧ bits .and .i64 ((x : Int) / 4096) 63 = (a : Int) := ⟨_, rfl, and63_div x 4096 (by omega)⟩
  have l1 : a1 < 64 := by rw [← he1.out]; omega
  have l2 : a2 < 64 := by rw [← he2.out]; omega
  have l3 : a3 < 64 := by rw [← he3.out]; omega
  have o1 := or128 a1 l1
  have o2 := or128 a2 l2
  have o3 := or128 a3 l3
  by_cases h1 : x < 128
  · have h1' : (x : Int) < 128 := by omega
    rw [Lib.encodeRuneZ_one (by omega) (by omega)]
    go_enter Tryd.func12, Tryd.ntmps12
    go_wp2_with (at_builtin; refine wpList_append_own _ rfl _ _ 24 rfl w.heap.size 5 i5 (.int .u8 0) 1 1 Tryd.underlying24 hi5 hz0 hz1 hz2 rfl (by decide) (.slice none 0 0) 0 [] rfl (World.ownsRow_nil _ _ _ _) ⟨w.heap.size, 0, none⟩ 1 1 [.int .u8 (x : Int)] rfl rfl (cells_new w [.int .u8 (x : Int)] 5 _ rfl) (bytes_one' [(x : Int)]) (by unfold maxLen; omega) (by omega) (by simp) ?_; intro v w2 hown hg _)
    go_ret
    exact ⟨_, rfl, own_zero' (by simpa using hown), ((Below.refl _ w).alloc (Nat.le_refl _) _).grown hg (by simp) (fun k hk => by cases hk)⟩
  · have h1' : ¬ (x : Int) < 128 := by omega
    by_cases h2 : x < 2048
    · have h2' : (x : Int) < 2048 := by omega
      obtain ⟨b, hbe, hb⟩ : ∃ b, Hid (192 + x / 64 = b) ∧ bits .or .i64 192 ((x : Int) / 64) = (b : Int) := ⟨_, rfl, by rw [show (x : Int) / 64 = ((x / 64 : Nat) : Int) by omega]; exact or192 _ (by omega)⟩
      have lb : b < 256 := by rw [← hbe.out]; omega
      rw [Lib.encodeRuneZ_two (by omega) (by omega)]
      have HE : Hid (([192 + (x : Int) / 64, 128 + (x : Int) % 64]).map (fun x => Value.int .u8 x) = [.int .u8 (b : Int), .int .u8 (128 + (a1 : Int))]) := by
        show _ = _; have := hbe.out; have := he1.out; simp; omega
      rw [HE.out]
      go_enter Tryd.func12, Tryd.ntmps12
      go_wp2_with (at_builtin; refine wpList_append_own _ rfl _ _ 24 rfl w.heap.size 5 i5 (.int .u8 0) 1 1 Tryd.underlying24 hi5 hz0 hz1 hz2 rfl (by decide) (.slice none 0 0) 0 [] rfl (World.ownsRow_nil _ _ _ _) ⟨w.heap.size, 0, none⟩ 2 2 [.int .u8 (b : Int), .int .u8 (128 + (a1 : Int))] rfl rfl (cells_new w [.int .u8 (b : Int), .int .u8 (128 + (a1 : Int))] 5 _ rfl) (bytes_one' [(b : Int), (128 + (a1 : Int))]) (by unfold maxLen; omega) (by omega) (by simp) ?_; intro v w2 hown hg _)
      go_ret
      exact ⟨_, rfl, own_zero' (by simpa using hown), ((Below.refl _ w).alloc (Nat.le_refl _) _).grown hg (by simp) (fun k hk => by cases hk)⟩
    · have h2' : ¬ (x : Int) < 2048 := by omega
      by_cases h3 : x < 65536
      · have h3' : (x : Int) < 65536 := by omega
        obtain ⟨b, hbe, hb⟩ : ∃ b, Hid (224 + x / 4096 = b) ∧ bits .or .i64 224 ((x : Int) / 4096) = (b : Int) := ⟨_, rfl, by rw [show (x : Int) / 4096 = ((x / 4096 : Nat) : Int) by omega]; exact or224 _ (by omega)⟩
        have lb : b < 256 := by rw [← hbe.out]; omega
        rw [Lib.encodeRuneZ_three (by omega)]
        have HE : Hid (([224 + (x : Int) / 4096, 128 + (x : Int) / 64 % 64, 128 + (x : Int) % 64]).map (fun x => Value.int .u8 x) = [.int .u8 (b : Int), .int .u8 (128 + (a2 : Int)), .int .u8 (128 + (a1 : Int))]) := by
          show _ = _; have := hbe.out; have := he1.out; have := he2.out; simp; omega
        rw [HE.out]
        go_enter Tryd.func12, Tryd.ntmps12
        go_wp2_with (at_builtin; refine wpList_append_own _ rfl _ _ 24 rfl w.heap.size 5 i5 (.int .u8 0) 1 1 Tryd.underlying24 hi5 hz0 hz1 hz2 rfl (by decide) (.slice none 0 0) 0 [] rfl (World.ownsRow_nil _ _ _ _) ⟨w.heap.size, 0, none⟩ 3 3 [.int .u8 (b : Int), .int .u8 (128 + (a2 : Int)), .int .u8 (128 + (a1 : Int))] rfl rfl (cells_new w [.int .u8 (b : Int), .int .u8 (128 + (a2 : Int)), .int .u8 (128 + (a1 : Int))] 5 _ rfl) (bytes_one' [(b : Int), (128 + (a2 : Int)), (128 + (a1 : Int))]) (by unfold maxLen; omega) (by omega) (by simp) ?_; intro v w2 hown hg _)
        go_ret
        exact ⟨_, rfl, own_zero' (by simpa using hown), ((Below.refl _ w).alloc (Nat.le_refl _) _).grown hg (by simp) (fun k hk => by cases hk)⟩
      · have h3' : ¬ (x : Int) < 65536 := by omega
        obtain ⟨b, hbe, hb⟩ : ∃ b, Hid (240 + x / 262144 = b) ∧ bits .or .i64 240 ((x : Int) / 262144) = (b : Int) := ⟨_, rfl, by rw [show (x : Int) / 262144 = ((x / 262144 : Nat) : Int) by omega]; exact or240 _ (by omega)⟩
        have lb : b < 256 := by rw [← hbe.out]; omega
        rw [Lib.encodeRuneZ_four (by omega) (by omega)]
        have HE : Hid (([240 + (x : Int) / 262144, 128 + (x : Int) / 4096 % 64, 128 + (x : Int) / 64 % 64, 128 + (x : Int) % 64]).map (fun x => Value.int .u8 x) = [.int .u8 (b : Int), .int .u8 (128 + (a3 : Int)), .int .u8 (128 + (a2 : Int)), .int .u8 (128 + (a1 : Int))]) := by
          show _ = _; have := hbe.out; have := he1.out; have := he2.out; have := he3.out; simp; omega
        rw [HE.out]
        go_enter Tryd.func12, Tryd.ntmps12
        go_wp2_with (at_builtin; refine wpList_append_own _ rfl _ _ 24 rfl w.heap.size 5 i5 (.int .u8 0) 1 1 Tryd.underlying24 hi5 hz0 hz1 hz2 rfl (by decide) (.slice none 0 0) 0 [] rfl (World.ownsRow_nil _ _ _ _) ⟨w.heap.size, 0, none⟩ 4 4 [.int .u8 (b : Int), .int .u8 (128 + (a3 : Int)), .int .u8 (128 + (a2 : Int)), .int .u8 (128 + (a1 : Int))] rfl rfl (cells_new w [.int .u8 (b : Int), .int .u8 (128 + (a3 : Int)), .int .u8 (128 + (a2 : Int)), .int .u8 (128 + (a1 : Int))] 5 _ rfl) (bytes_one' [(b : Int), (128 + (a3 : Int)), (128 + (a2 : Int)), (128 + (a1 : Int))]) (by unfold maxLen; omega) (by omega) (by simp) ?_; intro v w2 hown hg _)
        go_ret
        exact ⟨_, rfl, own_zero' (by simpa using hown), ((Below.refl _ w).alloc (Nat.le_refl _) _).grown hg (by simp) (fun k hk => by cases hk)⟩
end Go.Proofs.YtedhglphnmheiabDoor
