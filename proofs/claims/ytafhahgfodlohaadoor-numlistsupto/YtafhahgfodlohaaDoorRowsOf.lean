/-
  Slices of numbers that came in, and rows that the call makes out of them: what the laws over lists share.
-/
import Derived.Test.YtafhahgfodlohaaDoorFrame
import Derived.Test.YtafhahgfodlohaaDoorWalkK
import Derived.SizedLaws
import Derived.Laws.AppendOwnNone
import Derived.Laws.OwnMore
namespace Go.Proofs.YtafhahgfodlohaaDoor
open Go.ChangeShapes Go.WideShapes Go.ChangeAt Go.WideMaps Go.WideElems Go.RowKit
set_option maxRecDepth 100000

theorem info3 : (Tryd.prog.info? 3).map (fun i => (i.zero, i.size, i.bytes)) = some (some (.int .i64 0), 1, 8) := by kernel_rfl
theorem laidOut : laidOutB Tryd.prog = true := by kernel_rfl
theorem bytes3 : Tryd.prog.bytesOf 3 = 8 := by kernel_rfl
theorem cells3 : Tryd.prog.cellsOf 3 = 1 := by kernel_rfl

/-- A row that the call owns, as a slice of numbers. -/
theorem own_isrow {w : World} {base n : Nat} {v : Value} {zs : List Int} (h : w.ownsRow base 3 1 v n (zs.map (Value.int .i64))) : ∃ a cap, v = .slice a n cap ∧ IsRow w a n cap zs := by
  have h1 := h.1
  simp only [List.length_map, Nat.mul_one] at h1
  rcases h.2 with ⟨rfl, rfl⟩ | ⟨g, cap, cur, rfl, hb, hg, hn, hm, hcs, htk⟩
  · exact ⟨none, 0, rfl, .inl ⟨rfl, rfl, rfl, List.length_eq_zero_iff.1 h1⟩⟩
  · refine ⟨_, cap, rfl, .inr ⟨⟨g, 0, none⟩, rfl, by omega, h1, fun k hk => ?_⟩⟩
    have := h.cellAt k (by omega)
    rw [addr_add, Nat.zero_add, this, List.getElem?_map, List.getElem?_eq_getElem (by omega)]
    simp [List.getD, h1, hk]
/-- A slice that came in reads so in every later world. -/
theorem IsRow.later {w w' : World} {a : Option Addr} {len cap : Nat} {zs : List Int} (h : IsRow w a len cap zs) (hb : Below w.heap.size w w') : IsRow w' a len cap zs := by
  rcases h with h | ⟨x, rfl, hm, hl, hc⟩
  · exact .inl h
  · exact .inr ⟨x, rfl, hm, hl, fun k hk => cell_later hb (hc k hk)⟩
theorem row_news {w : World} {x : Addr} {len : Nat} {zs : List Int} (hl : zs.length = len) (hc : ∀ k, k < len → w.cell? (x.add k) = some (.int .i64 (zs.getD k 0))) :
    ∀ j u, (zs.map (Value.int .i64))[j]? = some u → w.cell? (x.add j) = some u := by
  intro j u hj
  rw [List.getElem?_map, Option.map_eq_some_iff] at hj
  obtain ⟨z, hz, rfl⟩ := hj
  have hjl : j < zs.length := (List.getElem?_eq_some_iff.1 hz).1
  have h := hc j (by omega)
  have e : zs.getD j 0 = z := by simp [List.getD, hz]
  rwa [e] at h
theorem nsum_is (v x : Int) (a : Option Addr) (len cap : Nat) (zs : List Int) (w : World) (h : IsRow w a len cap zs) (hv : Hid (sumL zs = (v, x))) :
    Calls Tryd.prog 16 #[.slice a len cap] w fun e w' => e = .returned (.tuple #[.int .i64 v, .int .i64 x]) ∧ w' = w := by
  have := nsum_any a len cap zs w h
  rwa [hv.out] at this
theorem rsum_is (v x : Int) (a : Option Addr) (len cap : Nat) (zs : List Int) (w : World) (h : IsRow w a len cap zs) (hv : Hid (sumL zs = (v, x))) :
    Calls Tryd.prog 17 #[.slice a len cap] w fun e w' => e = .returned (.tuple #[.int .i64 v, .int .i64 x]) ∧ w' = w := by
  have := rsum_any a len cap zs w h
  rwa [hv.out] at this
/-- Behind the append onto the empty slice: what it made, and what lay before. -/
theorem behind {w w1 w2 : World} {n : Nat} {v' : Value} {zs : List Int} (hb : Below w.heap.size w w1) (hown : w2.ownsRow w.heap.size 3 1 v' n (zs.map (Value.int .i64)))
    (hg : (w1.alloc (.cells #[] 3)).grownBy w2 (Value.slice (some ⟨w1.heap.size, 0, none⟩) 0 0).ownBlock) :
    Below w.heap.size w w2 ∧ ∃ a cap, v' = .slice a n cap ∧ IsRow w2 a n cap zs := by
  refine ⟨(hb.alloc hb.size _).grown hg (by have := hb.size; simp; omega) (fun k hk => ?_), own_isrow hown⟩
  have hs := hb.size
  simp only [Value.ownBlock, Option.some.injEq] at hk
  omega

end Go.Proofs.YtafhahgfodlohaaDoor
