/-
  Several texts in one: LoaL SamP.
-/
import Derived.Deep.RegionHeld3
import Derived.BigRegion
import Derived.Test.YtgjpkpmikbpcnaaXLinBG
import Derived.Test.YtgjpkpmikbpcnaaXRLd0
import Derived.Test.YtgjpkpmikbpcnaaXPtsG
import Derived.Test.YtgjpkpmikbpcnaaXLdsG
import Derived.Test.YtgjpkpmikbpcnaaXCpVG
import Derived.Test.YtgjpkpmikbpcnaaWSet0
import Derived.Test.YtgjpkpmikbpcnaaXCpX
import Derived.Test.YtgjpkpmikbpcnaaXRChk
import Derived.Test.YtgjpkpmikbpcnaaXLReadsG
import Derived.Test.YtgjpkpmikbpcnaaXPlBG
namespace Go.Proofs.Ytgjpkpmikbpcnaa
open Go.RowKit
theorem same_self (xs : List Int) : Ld.sameB xs xs = true := by
 unfold Ld.sameB
 simp
end Go.Proofs.Ytgjpkpmikbpcnaa
namespace Go.Proofs.Ytgjpkpmikbpcnaa
open Go.RowKit
theorem stp_get {w : World} {base b2 n c k : Nat} {a : Option Addr} {L : List StepT} {ys : List Value} {s : StepT} (h : StpR w base b2 (.slice a n c) L ys) (hx : L[k]? = some s) : ∃ g y1 yc,a = some ⟨g,0,none⟩ ∧ g < w.heap.size ∧ (∀ j,j < 9 → w.cell? ⟨g,k * 9 + j,none⟩ = (encS s (.slice y1 s.load.length yc))[j]?) ∧ IntsAt w y1 s.load := by
 obtain ⟨y,g,cap,hy,hg,_,hlt⟩ := RowS.some h hx
 injection hg with hg1 hg2 hg3
 subst hg1 hg3
 obtain ⟨hs,_,_⟩ := h.sat k s y hx hy
 obtain ⟨y1,yc,rfl⟩ := IRow.shape hs
 exact ⟨g,y1,yc,rfl,hlt,fun j hj => RowS.cells (z := 9) (fun _ _ => rfl) h hx hy j hj,IRow.ints hs⟩
end Go.Proofs.Ytgjpkpmikbpcnaa
