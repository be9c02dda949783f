/-
  Plain: the program's Set is the document's, for places that don't fall.
-/
import Derived.Test.YtgjpkpmikbpcnaaXSetW
import Derived.Test.YtgjpkpmikbpcnaaXPtsG
namespace Go.Proofs.Ytgjpkpmikbpcnaa
theorem clamp_in {a s l : Nat} (h1 : s ≤ a) (h2 : a ≤ l) : clampM (a : Int) s l = a := by
 unfold clampM
 split
 ·omega
 ·rw [if_pos (by omega)];simp
end Go.Proofs.Ytgjpkpmikbpcnaa
