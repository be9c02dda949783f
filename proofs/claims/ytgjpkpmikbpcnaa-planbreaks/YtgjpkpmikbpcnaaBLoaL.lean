/-
  What the law PlanLoads does.
-/
import Derived.Deep.RegionHeld3
import Derived.BigRegion
import Derived.Test.YtgjpkpmikbpcnaaXLinBG
import Derived.Test.YtgjpkpmikbpcnaaXPlBG
import Derived.Test.YtgjpkpmikbpcnaaXPtsG
import Derived.Test.YtgjpkpmikbpcnaaXLdsG
import Derived.Test.YtgjpkpmikbpcnaaXCpVG
import Derived.Test.YtgjpkpmikbpcnaaWSet0
import Derived.Test.YtgjpkpmikbpcnaaXCpX
import Derived.Test.YtgjpkpmikbpcnaaXRChk
import Derived.Test.YtgjpkpmikbpcnaaXLReadsG
namespace Go.Proofs.Ytgjpkpmikbpcnaa
open Go.RowKit
theorem two_ints {w : World} {a b : Int} : IntsAt (w.alloc (.cells #[.int .i64 a,.int .i64 b] 3)) (some ⟨w.heap.size,0,none⟩) [a,b] := fun k hk => by
 have e := heap_alloc_new w (.cells #[.int .i64 a,.int .i64 b] 3)
 refine ⟨w.heap.size,0,rfl,?_⟩
 rw [cell_of_row _ _ _ _ _ _ e]
 have : k = 0 ∨ k = 1 := by simp at hk;omega
 rcases this with rfl | rfl <;> rfl
end Go.Proofs.Ytgjpkpmikbpcnaa
