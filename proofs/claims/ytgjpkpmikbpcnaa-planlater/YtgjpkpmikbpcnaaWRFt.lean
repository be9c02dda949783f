/-
  What the call of the document's Fit does.
-/
import Derived.BigRegion
import Derived.Deep.RegionHeld3
import Derived.Deep.CutRange
import Derived.Laws.BitsAllLaws
import Derived.Test.YtgjpkpmikbpcnaaWOfD0
import Derived.Test.YtgjpkpmikbpcnaaWFst0
import Derived.Test.YtgjpkpmikbpcnaaWSamP
import Derived.Test.YtgjpkpmikbpcnaaXStpAG
import Derived.Test.YtgjpkpmikbpcnaaWFitQ
import Derived.Test.YtgjpkpmikbpcnaaXFitE
import Derived.Test.YtgjpkpmikbpcnaaWFitD
import Derived.Test.YtgjpkpmikbpcnaaXPtsG
namespace Go.Proofs.Ytgjpkpmikbpcnaa
open Go.RowKit
theorem fit_brk {p : Prb} {vi : Int} {V : List Vst} (h : manB p vi = true) (hb : hasB V = true) : fitE p vi V = 162 ∧ fitP p vi V = planZ := by unfold fitE fitP;rw [h,hb];exact ⟨rfl,rfl⟩
end Go.Proofs.Ytgjpkpmikbpcnaa
