import Derived.Deep.RegionHeld3
import Derived.BigRegion
import Derived.Test.YtgjpkpmikbpcnaaOLinBG
import Derived.Test.YtgjpkpmikbpcnaaORLdW
import Derived.Test.YtgjpkpmikbpcnaaORSetG
import Derived.Test.YtgjpkpmikbpcnaaOCpX
import Derived.Test.YtgjpkpmikbpcnaaORChk
namespace Go.Proofs.Ytgjpkpmikbpcnaa
open Go.RowKit
theorem ld_get {w:World} {base n c k:Nat} {a:Option Addr} {LL:List (List Int)} {ys:List Value} {xs:List Int} (h:LdS w base (.slice a n c) LL ys) (hx:LL[k]? = some xs):∃ g y1 yc,a=some ⟨g,0,none⟩∧g<w.heap.size∧w.cell? ⟨g,k,none⟩=some (.slice y1 xs.length yc)∧IntsAt w y1 xs:=by
 obtain ⟨y,g,cap,hy,hg,_,hlt⟩:=RowS.some h hx;injection hg with hg1 hg2 hg3;subst hg1 hg3;have hc:=RowS.cells (z:=1) (fun _ _=>rfl) h hx hy 0 (by decide);obtain ⟨hs,_,_⟩:=h.sat k xs y hx hy;obtain ⟨y1,yc,rfl⟩:=IRow.shape hs;exact ⟨g,y1,yc,rfl,hlt,by rw [Nat.mul_one] at hc;exact hc,IRow.ints hs⟩
theorem yb4 (xs:List Int):Ld.sameB xs xs=true:=by
 unfold Ld.sameB
 simp
theorem ydY {w:World} {a b:Int}:IntsAt (w.alloc (.cells #[.int .i64 a,.int .i64 b] 3)) (some ⟨w.heap.size,0,none⟩) [a,b]:=fun k hk=>by
 have e:=heap_alloc_new w (.cells #[.int .i64 a,.int .i64 b] 3);refine ⟨w.heap.size,0,rfl,?_⟩;rw [cell_of_row _ _ _ _ _ _ e];have:k=0∨k=1:=by simp at hk;omega
 rcases this with rfl | rfl <;> rfl
end Go.Proofs.Ytgjpkpmikbpcnaa
namespace Go.Proofs.Ytgjpkpmikbpcnaa
open Go.RowKit
theorem pM {w:World} {base b2 n c k:Nat} {a:Option Addr} {L:List gA} {ys:List Value} {s:gA} (h:StpR w base b2 (.slice a n c) L ys) (hx:L[k]? = some s):∃ g y1 yc,a=some ⟨g,0,none⟩∧g<w.heap.size∧(∀ j,j<9→w.cell? ⟨g,k*9+j,none⟩=(oO s (.slice y1 s.load.length yc))[j]?)∧IntsAt w y1 s.load:=by
 obtain ⟨y,g,cap,hy,hg,_,hlt⟩:=RowS.some h hx;injection hg with hg1 hg2 hg3;subst hg1 hg3;obtain ⟨hs,_,_⟩:=h.sat k s y hx hy;obtain ⟨y1,yc,rfl⟩:=IRow.shape hs;exact ⟨g,y1,yc,rfl,hlt,fun j hj=>RowS.cells (z:=9) (fun _ _=>rfl) h hx hy j hj,IRow.ints hs⟩
end Go.Proofs.Ytgjpkpmikbpcnaa
