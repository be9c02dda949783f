/-
  What is wrong with a list of visits into which breaks are set, plain: all but the times is so wherever the breaks stand.
-/
import Derived.Test.YtgjpkpmikbpcnaaXPlBG
import Derived.Test.YtgjpkpmikbpcnaaXSetW
import Derived.Test.YtgjpkpmikbpcnaaXPtsG
namespace Go.Proofs.Ytgjpkpmikbpcnaa
open Go.RowKit
theorem there_brk (p : Prb) (i : Int) : thereV p 4 i = false := by
 cases h : thereV p 4 i with
 | false => rfl
 | true => rcases thereV_cases h with ⟨e,_⟩ | ⟨e,_⟩ | ⟨e,_⟩ <;> simp at e
end Go.Proofs.Ytgjpkpmikbpcnaa
