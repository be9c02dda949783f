/-
  The library's contracts of unicode/utf8.AppendRune, laid at this program: a table of numbers each, compared by the kernel.
-/
import Derived.Shelf.Utf8.AppendRunePlain
import Derived.Test.YtpffhckimilppaaDoorProg
namespace Go.Proofs.YtpffhckimilppaaDoor
open Go.Shelf
def appRen : Go.Shelf.Ren := ⟨fun | 242 => 39 | 278 => 49 | n => n, fun | 4 => 4 | 5 => 5 | 21 => 21 | 37 => 30 | 46 => 57 | 51 => 66 | n => n, fun | n => n⟩
theorem appLays : Go.Proofs.Lays.n242 Tryd.prog appRen := {
  mixed := by kernel_rfl
  f242 := Tryd.func39.trans (congrArg some (by kernel_rfl))
  f278 := Tryd.func49.trans (congrArg some (by kernel_rfl))
  t4 := Tryd.underlying4
  a4 := Tryd.isAgg4
  z4 := Tryd.sizeOf4
  v4 := Tryd.zeroValue4
  t5 := Tryd.underlying5
  a5 := Tryd.isAgg5
  z5 := Tryd.sizeOf5
  v5 := Tryd.zeroValue5
  t21 := Tryd.underlying21
  a21 := Tryd.isAgg21
  z21 := Tryd.sizeOf21
  v21 := Tryd.zeroValue21
  t37 := Tryd.underlying30
  a37 := Tryd.isAgg30
  z37 := Tryd.sizeOf30
  v37 := Tryd.zeroValue30
  t46 := Tryd.underlying57
  a46 := Tryd.isAgg57
  z46 := Tryd.sizeOf57
  v46 := Tryd.zeroValue57
  t51 := Tryd.underlying66
  a51 := Tryd.isAgg66
  z51 := Tryd.sizeOf66
  v51 := Tryd.zeroValue66 }
theorem append_rune (v : Value) (n : Nat) (xs : List Value) (r : Int) (hr0 : -2147483648 ≤ r) (hr1 : r ≤ 2147483647) (w : World) (B : Nat) (hown : w.ownsRow B 5 1 v n xs) (hlen : n + 4 ≤ 140737488355328) (hB : B ≤ w.heap.size) :
    Calls Tryd.prog 39 #[v, .int .i32 r] w fun e w' => ∃ v', e = .returned v' ∧ w'.ownsRow B 5 1 v' (n + (Lib.runeCells r).length) (xs ++ Lib.runeCells r) ∧ ∃ o, (w.alloc o).grownBy w' v.ownBlock :=
  Any.utf8_AppendRune_plain appLays (by kernel_rfl) B v n xs r hr0 hr1 w hown hlen hB
end Go.Proofs.YtpffhckimilppaaDoor
