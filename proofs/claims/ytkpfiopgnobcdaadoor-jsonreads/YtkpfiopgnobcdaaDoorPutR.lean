/-
  What the document's Put does of a number: behind whatever row.
-/
import Derived.Test.YtkpfiopgnobcdaaDoorModel
import Derived.Test.YtkpfiopgnobcdaaDoorTree
namespace Go.Proofs.YtkpfiopgnobcdaaDoor
open Go.RowKit

/-- An append at its operation, with where the row lies then. -/
theorem wpList_append_moved {P : Program} {w : World} {ops : Array Oper} {rest : List Oper} {o : Oper} {a : Act} {Q : Exit → Act → World → Prop}
    (hg : o.guard = none) (s x : Operand) (t : TypeId) (hop : o.op = Op.call { callee := Callee.builtin Builtin.append, args := #[s, x], argTypes := #[t, t] })
    (base : Nat) (e : TypeId) (i : TypeInfo) (z : Value) (size bytes : Nat) (ht : P.underlying t = some (.slice e)) (hi : P.info? e = some i) (hz : i.zero = some z)
    (hsize : i.size = size) (hby : i.bytes = bytes) (hzs : z.cells.size = size) (hsz : 0 < size)
    (v : Value) (n : Nat) (xs : List Value) (hs : a.eval s = v) (hown : w.ownsRow base e size v n xs)
    (ad : Addr) (m c : Nat) (news : List Value) (hx : a.eval x = .slice (some ad) m c) (hl : news.length = m * size) (hnews : ∀ j u, news[j]? = some u → w.cell? (ad.add j) = some u) (h1 : ∀ u ∈ news, u.oneCell' = true)
    (h63 : n + m ≤ maxLen) (hbytes : (n + m) * bytes ≤ 140737488355328) (hbase : base ≤ w.heap.size)
    (hK : ∀ v' w', w'.ownsRow base e size v' (n + m) (xs ++ news) → w.grownBy w' v.ownBlock → Moved w.heap.size v.ownBlock v'.ownBlock → wpList P ops Q rest (a.put o.dst v') w') :
    wpList P ops Q (o :: rest) a w := by
  refine wpList_plain hg fun K' hK' => ?_
  obtain ⟨v', w', hr, h2, h3, h4⟩ := append_moved (P := P) w base t o.type e i z size bytes ht hi hz hsize hby hzs hsz v n xs hown ad m c news hl hnews h1 h63 hbytes hbase
  unfold Oper.wp
  simp [execOp, hop, resolve, invoke, builtin, hs, hx, hr, Result.andThen]
  exact hK' _ _ (hK v' w' h2 h3 h4)
theorem info5' : (Tryd.prog.info? 5).map (fun i => (i.zero, i.size, i.bytes)) = some (some (.int .u8 0), 1, 1) := by kernel_rfl
theorem bytes_one' (l : List Int) : ∀ u ∈ l.map (Value.int .u8), u.oneCell' = true := by
  intro u hu
  obtain ⟨c, _, rfl⟩ := List.mem_map.1 hu
  rfl
theorem mask63 (x : Nat) : x &&& 63 = x % 64 := Nat.and_two_pow_sub_one_eq_mod x 6
theorem ofInt64' (x : Nat) (h : x < 18446744073709551616) : (BitVec.ofInt 64 (x : Int)).toNat = x := by
  rw [BitVec.toNat_ofInt]; omega
theorem wrap_small' (x : Nat) (h : x < 9223372036854775808) : IntKind.i64.wrap (x : Int) = x := by
  unfold IntKind.wrap; simp [IntKind.signed, IntKind.bits]; omega
theorem and63 (x : Nat) (h : x < 9223372036854775808) : bits .and .i64 (x : Int) 63 = ((x % 64 : Nat) : Int) := by
  show IntKind.i64.wrap ((BitVec.ofInt 64 (x : Int) &&& BitVec.ofInt 64 ((63 : Nat) : Int)).toNat : Int) = _
  rw [BitVec.toNat_and, ofInt64' x (by omega), ofInt64' 63 (by omega), mask63]
  exact wrap_small' _ (by omega)
theorem and63_div (x p : Nat) (h : x < 9223372036854775808) : bits .and .i64 ((x : Int) / (p : Int)) 63 = ((x / p % 64 : Nat) : Int) := by
  rw [← Int.natCast_ediv]
  exact and63 _ (Nat.lt_of_le_of_lt (Nat.div_le_self x p) h)
theorem or_add (i b v : Nat) (hv : v < 2 ^ i) (hs : 2 ^ i * b + v < 9223372036854775808) : bits .or .i64 ((2 ^ i * b : Nat) : Int) (v : Int) = ((2 ^ i * b + v : Nat) : Int) := by
  show IntKind.i64.wrap ((BitVec.ofInt 64 ((2 ^ i * b : Nat) : Int) ||| BitVec.ofInt 64 (v : Int)).toNat : Int) = _
  rw [BitVec.toNat_or, ofInt64' _ (by omega), ofInt64' _ (by omega), ← Nat.two_pow_add_eq_or_of_lt hv b]
  exact wrap_small' _ hs
theorem or128 (v : Nat) (hv : v < 64) : bits .or .i64 128 (v : Int) = ((128 + v : Nat) : Int) := or_add 7 1 v (by omega) (by omega)
theorem or192 (v : Nat) (hv : v < 32) : bits .or .i64 192 (v : Int) = ((192 + v : Nat) : Int) := or_add 6 3 v (by omega) (by omega)
theorem or224 (v : Nat) (hv : v < 16) : bits .or .i64 224 (v : Int) = ((224 + v : Nat) : Int) := or_add 5 7 v (by omega) (by omega)
theorem or240 (v : Nat) (hv : v < 8) : bits .or .i64 240 (v : Int) = ((240 + v : Nat) : Int) := or_add 4 15 v (by omega) (by omega)

/-- What stands behind a Put. -/
def PutEnd (base : Nat) (w : World) (v : Value) (n : Nat) (xs : List Value) (x : Nat) (e : Ending) (w' : World) : Prop :=
  ∃ v' l, e = .returned v' ∧ w'.ownsRow base 5 1 v' (n + l.length) (xs ++ l) ∧ (∀ k, k < w.heap.size → some k ≠ v.ownBlock → w'.heap[k]? = w.heap[k]?) ∧ w.grownBy w' v.ownBlock ∧ Moved w.heap.size v.ownBlock v'.ownBlock ∧ l.length ≤ 4 ∧
    (¬ (55296 ≤ x ∧ x < 57344) → x < 1114112 → l = Lib.byteCells (Lib.encodeRune x))
theorem put_end {base : Nat} {w w' : World} {v v' : Value} {n : Nat} {xs : List Value} {x : Nat} {l : List Int} (hg : (w.alloc (.cells (l.map (Value.int .u8)).toArray 5)).grownBy w' v.ownBlock)
    (hm : Moved (w.alloc (.cells (l.map (Value.int .u8)).toArray 5)).heap.size v.ownBlock v'.ownBlock) (ho : w'.ownsRow base 5 1 v' (n + l.length) (xs ++ l.map (Value.int .u8))) (hl : l.length ≤ 4)
    (he : ¬ (55296 ≤ x ∧ x < 57344) → x < 1114112 → l.map (Value.int .u8) = Lib.byteCells (Lib.encodeRune x)) : PutEnd base w v n xs x (.returned v') w' := by
  have hgw : w.grownBy w' v.ownBlock := (World.grownBy_alloc w _ _).trans hg
  refine ⟨v', l.map (Value.int .u8), rfl, by rw [List.length_map]; exact ho, fun k hk hne => hgw.block k hk hne, hgw, ?_, by simpa using hl, he⟩
  rcases hm with h | ⟨g, h, h2⟩
  · exact .inl h
  · exact .inr ⟨g, h, by simp at h2; omega⟩
theorem enc_cells {x : Nat} {l : List Int} (h : l.map (Value.int .u8) = Lib.runeCells x) : l.map (Value.int .u8) = Lib.byteCells (Lib.encodeRune x) := by rw [Lib.byteCells_encodeRune]; exact h

set_option maxRecDepth 100000 in
set_option maxHeartbeats 1600000 in
theorem rput_any (x : Nat) (hx : x < 2097152) (w : World) (v : Value) (n : Nat) (xs : List Value) (base : Nat) (hbase : base ≤ w.heap.size) (hown : w.ownsRow base 5 1 v n xs) (hn : n ≤ 1000000) :
    Calls Tryd.prog 33 #[v, .int .i64 x] w (PutEnd base w v n xs x) := by
  obtain ⟨i5, hi5, hz0, hz1, hz2⟩ := info_parts info5'
  obtain ⟨a1, he1, e1⟩ : ∃ a, Hid (x % 64 = a) ∧ bits .and .i64 (x : Int) 63 = (a : Int) := ⟨_, rfl, and63 x (by omega)⟩
  obtain ⟨a2, he2, e2⟩ : ∃ a, Hid (x / 64 % 64 = a) ∧ bits .and .i64 ((x : Int) / 64) 63 = (a : Int) := ⟨_, rfl, and63_div x 64 (by omega)⟩
  obtain ⟨a3, he3, e3⟩ : ∃ a, Hid (x / 4096 % 64 = a) ∧ bits .and .i64 ((x : Int) / 4096) 63 = (a : Int) := ⟨_, rfl, and63_div x 4096 (by omega)⟩
  have l1 : a1 < 64 := by rw [← he1.out]; omega
  have l2 : a2 < 64 := by rw [← he2.out]; omega
  have l3 : a3 < 64 := by rw [← he3.out]; omega
  have o1 := or128 a1 l1
  have o2 := or128 a2 l2
  have o3 := or128 a3 l3
  have HO := (show Hid (w.ownsRow base 5 1 v n xs) from hown)
  clear hown
  by_cases h1 : x < 128
  · have h1' : (x : Int) < 128 := by omega
    go_enter Tryd.func33, Tryd.ntmps33
    go_wp2_with (at_builtin; refine wpList_append_moved rfl _ _ 22 rfl base 5 i5 (.int .u8 0) 1 1 Tryd.underlying22 hi5 hz0 hz1 hz2 rfl (by decide) v n xs rfl (HO.out.alloc _) ⟨w.heap.size, 0, none⟩ 1 1 [.int .u8 (x : Int)] rfl rfl (cells_new w [.int .u8 (x : Int)] 5 _ rfl) (bytes_one' [(x : Int)]) (by unfold maxLen; omega) (by omega) (by simp; omega) ?_; intro v' w2 ho hg hm)
    go_ret
    refine put_end (l := [(x : Int)]) hg hm ho (by simp) (fun _ _ => enc_cells ?_)
    unfold Lib.runeCells
    rw [Lib.encodeRuneZ_one (by omega) (by omega)]
  · have h1' : ¬ (x : Int) < 128 := by omega
    by_cases h2 : x < 2048
    · have h2' : (x : Int) < 2048 := by omega
      obtain ⟨b, hbe, hb⟩ : ∃ b, Hid (192 + x / 64 = b) ∧ bits .or .i64 192 ((x : Int) / 64) = (b : Int) := ⟨_, rfl, by rw [show (x : Int) / 64 = ((x / 64 : Nat) : Int) by omega]; exact or192 _ (by omega)⟩
      have lb : b < 256 := by rw [← hbe.out]; omega
      go_enter Tryd.func33, Tryd.ntmps33
      go_wp2_with (at_builtin; refine wpList_append_moved rfl _ _ 22 rfl base 5 i5 (.int .u8 0) 1 1 Tryd.underlying22 hi5 hz0 hz1 hz2 rfl (by decide) v n xs rfl (HO.out.alloc _) ⟨w.heap.size, 0, none⟩ 2 2 [.int .u8 (b : Int), .int .u8 (128 + (a1 : Int))] rfl rfl (cells_new w [.int .u8 (b : Int), .int .u8 (128 + (a1 : Int))] 5 _ rfl) (bytes_one' [(b : Int), (128 + (a1 : Int))]) (by unfold maxLen; omega) (by omega) (by simp; omega) ?_; intro v' w2 ho hg hm)
      go_ret
      refine put_end (l := [(b : Int), 128 + (a1 : Int)]) hg hm ho (by simp) (fun _ _ => enc_cells ?_)
      unfold Lib.runeCells
      rw [Lib.encodeRuneZ_two (by omega) (by omega)]
      have := hbe.out; have := he1.out; simp; omega
    · have h2' : ¬ (x : Int) < 2048 := by omega
      by_cases h3 : x < 65536
      · have h3' : (x : Int) < 65536 := by omega
        obtain ⟨b, hbe, hb⟩ : ∃ b, Hid (224 + x / 4096 = b) ∧ bits .or .i64 224 ((x : Int) / 4096) = (b : Int) := ⟨_, rfl, by rw [show (x : Int) / 4096 = ((x / 4096 : Nat) : Int) by omega]; exact or224 _ (by omega)⟩
        have lb : b < 256 := by rw [← hbe.out]; omega
        go_enter Tryd.func33, Tryd.ntmps33
        go_wp2_with (at_builtin; refine wpList_append_moved rfl _ _ 22 rfl base 5 i5 (.int .u8 0) 1 1 Tryd.underlying22 hi5 hz0 hz1 hz2 rfl (by decide) v n xs rfl (HO.out.alloc _) ⟨w.heap.size, 0, none⟩ 3 3 [.int .u8 (b : Int), .int .u8 (128 + (a2 : Int)), .int .u8 (128 + (a1 : Int))] rfl rfl (cells_new w [.int .u8 (b : Int), .int .u8 (128 + (a2 : Int)), .int .u8 (128 + (a1 : Int))] 5 _ rfl) (bytes_one' [(b : Int), (128 + (a2 : Int)), (128 + (a1 : Int))]) (by unfold maxLen; omega) (by omega) (by simp; omega) ?_; intro v' w2 ho hg hm)
        go_ret
        refine put_end (l := [(b : Int), 128 + (a2 : Int), 128 + (a1 : Int)]) hg hm ho (by simp) (fun hs _ => enc_cells ?_)
        unfold Lib.runeCells
        rw [Lib.encodeRuneZ_three (by omega)]
        have := hbe.out; have := he1.out; have := he2.out; simp; omega
      · have h3' : ¬ (x : Int) < 65536 := by omega
        obtain ⟨b, hbe, hb⟩ : ∃ b, Hid (240 + x / 262144 = b) ∧ bits .or .i64 240 ((x : Int) / 262144) = (b : Int) := ⟨_, rfl, by rw [show (x : Int) / 262144 = ((x / 262144 : Nat) : Int) by omega]; exact or240 _ (by omega)⟩
        have lb : b < 256 := by rw [← hbe.out]; omega
        go_enter Tryd.func33, Tryd.ntmps33
        go_wp2_with (at_builtin; refine wpList_append_moved rfl _ _ 22 rfl base 5 i5 (.int .u8 0) 1 1 Tryd.underlying22 hi5 hz0 hz1 hz2 rfl (by decide) v n xs rfl (HO.out.alloc _) ⟨w.heap.size, 0, none⟩ 4 4 [.int .u8 (b : Int), .int .u8 (128 + (a3 : Int)), .int .u8 (128 + (a2 : Int)), .int .u8 (128 + (a1 : Int))] rfl rfl (cells_new w [.int .u8 (b : Int), .int .u8 (128 + (a3 : Int)), .int .u8 (128 + (a2 : Int)), .int .u8 (128 + (a1 : Int))] 5 _ rfl) (bytes_one' [(b : Int), (128 + (a3 : Int)), (128 + (a2 : Int)), (128 + (a1 : Int))]) (by unfold maxLen; omega) (by omega) (by simp; omega) ?_; intro v' w2 ho hg hm)
        go_ret
        refine put_end (l := [(b : Int), 128 + (a3 : Int), 128 + (a2 : Int), 128 + (a1 : Int)]) hg hm ho (by simp) (fun _ _ => enc_cells ?_)
        unfold Lib.runeCells
        rw [Lib.encodeRuneZ_four (by omega) (by omega)]
        have := hbe.out; have := he1.out; have := he2.out; have := he3.out; simp; omega
end Go.Proofs.YtkpfiopgnobcdaaDoor
