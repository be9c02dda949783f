import Derived.Deep.RegionHeld3
import Derived.Deep.CutRange
import Derived.Test.YtgjpkpmikbpcnaaOFrmPG
import Derived.Test.YtgjpkpmikbpcnaaOFst0G
namespace Go.Proofs.Ytgjpkpmikbpcnaa
open Go.RowKit
theorem put5 {W:World} {b:Nat} {c0 c1 c2 c3 c4:Value} (v0 v1 v2 v3 v4:Value) (h:W.heap[b]? = some (.cells #[c0,c1,c2,c3,c4] 135 (0,0))) :
  ∃ Z,Z=(((((W.setCell ⟨b,0,none⟩ v0).setCell ⟨b,1,none⟩ v1).setCell ⟨b,2,none⟩ v2).setCell ⟨b,3,none⟩ v3).setCell ⟨b,4,none⟩ v4)∧Z.heap[b]? = some (.cells #[v0,v1,v2,v3,v4] 135 (0,0))∧W.grownBy Z (some b):=by
 refine ⟨_,rfl,?_,?_⟩
 ·have h0:(W.setCell ⟨b,0,none⟩ v0).heap[b]? = some (.cells #[v0,c1,c2,c3,c4] 135 (0,0)):=by have:=heap_setCell_same W b 0 _ _ v0 h;simpa using this
  have h1:((W.setCell ⟨b,0,none⟩ v0).setCell ⟨b,1,none⟩ v1).heap[b]? = some (.cells #[v0,v1,c2,c3,c4] 135 (0,0)):=by have:=heap_setCell_same _ b 1 _ _ v1 h0;simpa using this
  have h2:(((W.setCell ⟨b,0,none⟩ v0).setCell ⟨b,1,none⟩ v1).setCell ⟨b,2,none⟩ v2).heap[b]? = some (.cells #[v0,v1,v2,c3,c4] 135 (0,0)):=by have:=heap_setCell_same _ b 2 _ _ v2 h1;simpa using this
  have h3:((((W.setCell ⟨b,0,none⟩ v0).setCell ⟨b,1,none⟩ v1).setCell ⟨b,2,none⟩ v2).setCell ⟨b,3,none⟩ v3).heap[b]? = some (.cells #[v0,v1,v2,v3,c4] 135 (0,0)):=by have:=heap_setCell_same _ b 3 _ _ v3 h2;simpa using this
  have h4:(((((W.setCell ⟨b,0,none⟩ v0).setCell ⟨b,1,none⟩ v1).setCell ⟨b,2,none⟩ v2).setCell ⟨b,3,none⟩ v3).setCell ⟨b,4,none⟩ v4).heap[b]? = some (.cells #[v0,v1,v2,v3,v4] 135 (0,0)):=by have:=heap_setCell_same _ b 4 _ _ v4 h3;simpa using this
  exact h4
 ·repeat (first | (with_reducible exact cD _ _) | (with_reducible refine aZ ?_ _ _))
theorem rE {w w':World} {r q:Nat} (h:w.grownBy w' (some r)) (hq:q<w.heap.size) (hr:q≠r) (j:Nat):w'.cell? ⟨q,j,none⟩=w.cell? ⟨q,j,none⟩:=by simp only [World.cell?,oK h hq hr]
theorem yK {w w':World} {b:Nat} {v:Value} {L:List Win} (h:WinsV w v L) (hg:w.grownBy w' (some b)) (hb:∀ j c d,w.cell? ⟨b,j,none⟩=some (.int .i64 c)→w.cell? ⟨b,j+1,none⟩=some (.int .i64 d)→False):WinsV w' v L:=by
 obtain ⟨a,c,h1,h2,h3⟩:=h;refine ⟨a,c,h1,h2,h3.len,h3.max,fun k hk=>?_⟩;obtain ⟨b2,off,e,c0,c1⟩:=h3.cell k hk;have hne:b2≠b:=fun e2=>by subst e2;exact hb _ _ _ c0 c1
 exact ⟨b2,off,e,(rE hg (block_lt_of_cell c0) hne _).trans c0,(rE hg (block_lt_of_cell c0) hne _).trans c1⟩
theorem qE {w w':World} {b:Nat} {v:Value} {L:List Stp} (h:eT w v L) (hg:w.grownBy w' (some b)) (hx:w.heap[b]? = some (.cells #[.int .i64 0,.slice none 0 0,.slice none 0 0,.slice none 0 0,.slice none 0 0] 135)):eT w' v L:=by
 have hb:∀ j c d,w.cell? ⟨b,j,none⟩=some (.int .i64 c)→w.cell? ⟨b,j+1,none⟩=some (.int .i64 d)→False:=fun j c d h0 h1=>by
  rw [cell_of_row _ _ _ _ _ _ hx] at h0 h1
  rcases j with _ | _ | _ | _ | _ | j <;> simp at h0 h1
 obtain ⟨a,c,h1,h2,h3,h4⟩:=h;refine ⟨a,c,h1,h2,h3,fun k hk=>?_⟩;obtain ⟨b2,off,l,e,hl,hc,x,rfl,hv⟩:=h4 k hk;have c0:=hc 0 (by decide);have c1:=hc 1 (by decide);simp only [kJ,List.getElem?_cons_zero,List.getElem?_cons_succ] at c0 c1;have hne:b2≠b:=fun e2=>by subst e2;exact hb _ _ _ c0 c1
 exact ⟨b2,off,_,e,hl,fun j hj=>(rE hg (block_lt_of_cell c0) hne _).trans (hc j hj),x,rfl,yK hv hg hb⟩
theorem qG {w wc wz:World} {p:Prb} {v:Veh} {V:List Vst} {sb ab m nb tc sC bc:Nat} {ta sA ba:Option Addr} {A:List Int} (hbk:∀ W2,Below w.heap.size w W2→BrksV W2 (.slice ba nb bc) v.brks) (hmt:∀ W2,Below w.heap.size w W2→IntsV W2 (.slice ta p.time.cells.length tc) p.time.cells) (hw:Below w.heap.size w wc) (hz:Below wc.heap.size wc wz) (hst:eT wz (.slice sA m sC) (aB p v V)) (hbx:wz.heap[sb]? = some (.cells #[.int .i64 p.time.n,.slice ta p.time.cells.length tc,.slice sA m sC,.slice ba nb bc,.slice (some ⟨ab,0,none⟩) nb nb] 135)) (hne:ab<sb∧ab<wc.heap.size) (hab:wc.heap[ab]? = some (.cells (A.map (Value.int .i64)).toArray 3)) (hA:A.length=nb):SrW wz p v V sb ab m nb tc sC bc ta sA ba A :=
 ⟨hbx,(hz.block ab hne.2).trans hab,by have:=hne.1;omega,hA,hmt _ (below_on hw hz),hst,hbk _ (below_on hw hz)⟩
def eD (p:Prb) (vi:Int) (V:List Vst):Int:=bif !eO p vi then 160 else bif gX V then 162 else bif decide (ofE p vi (dO p vi V)=167) then (match eE p (p.vs.getD vi.toNat vz) V with | none=>167 | some ps=>ofE p vi (fB V (ps.map fun n:Nat=>(n:Int)))) else ofE p vi (dO p vi V)
def dS (p:Prb) (vi:Int) (V:List Vst):dQ:=bif !eO p vi then planZ else bif gX V then planZ else bif decide (ofE p vi (dO p vi V)=167) then (match eE p (p.vs.getD vi.toNat vz) V with | none=>planZ | some ps=>ofP p vi (fB V (ps.map fun n:Nat=>(n:Int)))) else ofP p vi (dO p vi V)
theorem nD {V:List Vst} (h:gX V=false):∀ u ∈ V,u.1≠4:=fun u hu e=>by
 unfold gX at h;have:=List.any_eq_false.1 h u hu
 simp [e] at this
theorem yeM (n:Nat):List.replicate n (0:Int)=(List.replicate n (0:Nat)).map fun n:Nat=>(n:Int):=by rw [List.map_replicate];rfl
theorem rD {p:Prb} {vi:Int} {V:List Vst} {v:Veh} (hv:p.vs.getD vi.toNat vz=v):dO p vi V=cJ 0 0 (List.replicate v.brks.length 0) V:=by
 unfold dO;rw [hv,yeM,mX (ydU _ _)]
theorem ye4 {p:Prb} {v:Veh} {V:List Vst} {ps:List Nat} (hl:aY p=true) (hv:iS p.dims p.time.n v) (hV:∀ u ∈ V,u.1≠4) (h0:ps.length=v.brks.length) (he:dI p v (cJ 0 0 ps V)=167):V.length≤24:=by
 have hs:v.shift.1≤v.shift.2:=by have:=hv.shift;omega
 rw [rG hs (ybA hl v) (by have:=hv.start;exact yfV hl this.1 this.2) hV h0] at he;refine ybP hl hV ?_
 cases hw:aQ p V with
 | true=>rfl
 | false =>
  have:vI p v V=161:=by unfold vI;rw [hw];rfl
  rw [this] at he;simp at he
theorem ofE_err {p:Prb} {k:Nat} (hk:k<p.vs.length) (V:List Vst):ofE p (k:Int) V=dI p (p.vs.getD k vz) V:=by
 unfold ofE;rw [mS (by omega) (by omega)]
 rfl
theorem zR (args:Array Value) (w:World):(callFunc 74 args).run Try.prog w=.ok (.enter 74 args) w:=Go.Proofs.enters_of Try.func74 (by kernel_rfl) rfl args w
theorem yfC (args:Array Value) (w:World):(callFunc 75 args).run Try.prog w=.ok (.enter 75 args) w:=Go.Proofs.enters_of Try.func75 (by kernel_rfl) rfl args w
theorem ye5 {w:World} {b:Nat} {A:List Int} (h:w.heap[b]? = some (.cells (A.map (Value.int .i64)).toArray 3)):IntsAt w (some ⟨b,0,none⟩) A:=by
 intro i hi;refine ⟨b,0,rfl,?_⟩;rw [cell_of_row _ _ _ _ _ _ h]
 simp [hi]
set_option maxRecDepth 100000 in
set_option maxHeartbeats 6400000 in
theorem yfN {w:World} {x:aU} {p:Prb} {vi:Int} {b off m vc:Nat} {V:List Vst} (h:PrbV w x p) (hl:aY p=true) (hV:VsV w (.slice (some ⟨b,off,none⟩) m vc) V) (hm:V.length=m) (hm2:m≤90) (hvc:m≤vc) (hmb:eO p vi=true) (hhb:gX V=false) (hne:ofE p vi (dO p vi V)=167) :
  Calls Try.prog 40 #[.agg (aL p x),.int .i64 vi,.slice (some ⟨b,off,none⟩) m vc] w fun e w'=>∃ v,e=.returned (.tuple #[v,.int .i64 (eD p vi V)])∧PlanV w' w.heap.size v (dS p vi V)∧Below w.heap.size w w':=by
 have HL:=hide hl;have HP:=hide h;have HV:=hide hV;have HM:=hide hm;have HNE:=hide hne;obtain ⟨ta,tc,da,dc,va',vc',ja,jc,sa,sc,rfl⟩:=h.open;have HMB:=hide hmb;have HHB:=hide hhb;clear h hV hm hl hne hmb hhb;have HPE:Hid (aL p ⟨.slice ta p.time.cells.length tc,.slice da p.dist.cells.length dc,.slice va' p.vs.length vc',.slice ja p.js.length jc,.slice sa p.ss.length sc⟩=#[.int .i64 p.dims,.int .i64 p.time.n,.slice ta p.time.cells.length tc,.int .i64 p.dist.n,.slice da p.dist.cells.length dc,.slice va' p.vs.length vc',.slice ja p.js.length jc,.slice sa p.ss.length sc]):=rfl;have H71:Hid (∀ W2,Below w.heap.size w W2→Calls Try.prog 71 #[.agg #[.int .i64 p.dims,.int .i64 p.time.n,.slice ta p.time.cells.length tc,.int .i64 p.dist.n,.slice da p.dist.cells.length dc,.slice va' p.vs.length vc',.slice ja p.js.length jc,.slice sa p.ss.length sc,.int .i64 vi,.slice (some ⟨b,off,none⟩) m vc]] W2 fun e w'=>e=.returned (.bool (eO p vi))∧Below W2.heap.size W2 w'):=fun W2 hf=>by have h9:=mH (m:=m) (vc:=vc) (va:=some ⟨b,off,none⟩) (HP.out.on hf) vi;exact h9
 have H72:Hid (∀ W2,Below w.heap.size w W2→Calls Try.prog 72 #[.slice (some ⟨b,off,none⟩) m vc,.func (.func 73) #[] #[]] W2 fun e w'=>e=.returned (.bool (gX V))∧Below W2.heap.size W2 w'):=fun W2 hf=>by have h9:=m8 (c:=vc) (PrV.on HV.out hf) HM.out (by omega);exact h9
 rw [HPE.out];obtain ⟨W,hW⟩:∃ W,W=((w.alloc (.cells #[.int .i64 p.dims,.int .i64 p.time.n,.slice ta p.time.cells.length tc,.int .i64 p.dist.n,.slice da p.dist.cells.length dc,.slice va' p.vs.length vc',.slice ja p.js.length jc,.slice sa p.ss.length sc] 29)).alloc (.cells #[.int .i64 0,.slice none 0 0,.int .i64 0,.int .i64 0,.int .i64 0,.int .i64 0,.int .i64 0] 71)).alloc (.cells #[.int .i64 p.dims,.int .i64 p.time.n,.slice ta p.time.cells.length tc,.int .i64 p.dist.n,.slice da p.dist.cells.length dc,.slice va' p.vs.length vc',.slice ja p.js.length jc,.slice sa p.ss.length sc,.int .i64 vi,.slice (some ⟨b,off,none⟩) m vc] 121):=⟨_,rfl⟩;have HBW:Hid (Below w.heap.size w W):=by rw [hW];exact (Mn.a.alloc (by simp) _).alloc (by simp;omega) _
 have HWS:Hid (W.heap.size=w.heap.size+3):=by show _=_;rw [hW];simp
 have HC:Hid (∀ j,W.cell? ⟨w.heap.size+1+1,j,none⟩=(#[.int .i64 p.dims,.int .i64 p.time.n,.slice ta p.time.cells.length tc,.int .i64 p.dist.n,.slice da p.dist.cells.length dc,.slice va' p.vs.length vc',.slice ja p.js.length jc,.slice sa p.ss.length sc,.int .i64 vi,.slice (some ⟨b,off,none⟩) m vc]:Array Value)[j]?):=fun j=>by
  rw [hW];have:=heap_alloc_new ((w.alloc (.cells #[.int .i64 p.dims,.int .i64 p.time.n,.slice ta p.time.cells.length tc,.int .i64 p.dist.n,.slice da p.dist.cells.length dc,.slice va' p.vs.length vc',.slice ja p.js.length jc,.slice sa p.ss.length sc] 29)).alloc (.cells #[.int .i64 0,.slice none 0 0,.int .i64 0,.int .i64 0,.int .i64 0,.int .i64 0,.int .i64 0] 71)) (.cells #[.int .i64 p.dims,.int .i64 p.time.n,.slice ta p.time.cells.length tc,.int .i64 p.dist.n,.slice da p.dist.cells.length dc,.slice va' p.vs.length vc',.slice ja p.js.length jc,.slice sa p.ss.length sc,.int .i64 vi,.slice (some ⟨b,off,none⟩) m vc] 121);simp only [World.size_alloc] at this;exact cell_of_row _ _ _ _ _ _ this
 have HC0:Hid (∀ j,W.cell? ⟨w.heap.size,j,none⟩=(#[.int .i64 p.dims,.int .i64 p.time.n,.slice ta p.time.cells.length tc,.int .i64 p.dist.n,.slice da p.dist.cells.length dc,.slice va' p.vs.length vc',.slice ja p.js.length jc,.slice sa p.ss.length sc]:Array Value)[j]?):=fun j=>by
  have e9:W.heap[w.heap.size]? = some (.cells #[.int .i64 p.dims,.int .i64 p.time.n,.slice ta p.time.cells.length tc,.int .i64 p.dist.n,.slice da p.dist.cells.length dc,.slice va' p.vs.length vc',.slice ja p.js.length jc,.slice sa p.ss.length sc] 29):=by rw [hW,heap_alloc_old _ _ (by simp;omega),heap_alloc_old _ _ (by simp),heap_alloc_new]
  exact cell_of_row _ _ _ _ _ _ e9
 have HX6:Hid (W.heap[w.heap.size+1]? = some (.cells #[.int .i64 0,.slice none 0 0,.int .i64 0,.int .i64 0,.int .i64 0,.int .i64 0,.int .i64 0] 71)):=by
  show _=_;rw [hW,heap_alloc_old _ _ (by simp)];have:=heap_alloc_new (w.alloc (.cells #[.int .i64 p.dims,.int .i64 p.time.n,.slice ta p.time.cells.length tc,.int .i64 p.dist.n,.slice da p.dist.cells.length dc,.slice va' p.vs.length vc',.slice ja p.js.length jc,.slice sa p.ss.length sc] 29)) (.cells #[.int .i64 0,.slice none 0 0,.int .i64 0,.int .i64 0,.int .i64 0,.int .i64 0,.int .i64 0] 71);simp only [World.size_alloc] at this;exact this
 have HX3:Hid (w.heap.size+1<W.heap.size):=by show _<_;rw [HWS.out];omega
 obtain ⟨k,hk0,hk⟩:=fU HMB.out;have HKI:Hid (vi=(k:Int)):=hk0;have HVK:Hid (vi.toNat=k):=by show _=_;rw [hk0];simp
 obtain ⟨ca,cc,ba,bc,hcar⟩:=HP.out.car hk;have HCAR:=hide hcar;obtain ⟨nb,hnb⟩:∃ q,(p.vs.getD k vz).brks.length=q:=⟨_,rfl⟩;have HNB:=hide hnb;have hnb2:nb≤2:=by rw [← hnb];exact (fL (eC HL.out hk)).two
 have HHV:Hid (dO p vi V=fB V (List.replicate nb 0)):=by show _=_;unfold dO;rw [HVK.out,hnb]
 obtain ⟨V2,hV2⟩:∃ V2,dO p vi V=V2:=⟨_,rfl⟩;have HN7:=hide HNE.out;rw [hV2] at HN7 HHV;have HV2L:Hid (V2.length=m+nb):=by show _=_;rw [HHV.out,kN,HM.out,List.length_replicate]
 clear hV2;have H74:Hid (∀ W2,Below w.heap.size w W2→Calls Try.prog 74 #[.agg #[.int .i64 p.dims,.int .i64 p.time.n,.slice ta p.time.cells.length tc,.int .i64 p.dist.n,.slice da p.dist.cells.length dc,.slice va' p.vs.length vc',.slice ja p.js.length jc,.slice sa p.ss.length sc,.int .i64 vi,.slice (some ⟨b,off,none⟩) m vc]] W2 fun e w'=>e=.returned (.agg (eZ (p.vs.getD k vz) (.slice ca (p.vs.getD k vz).cap.length cc) (.slice ba nb bc)))∧Below W2.heap.size W2 w'):=fun W2 hf=>by have h9:=jW (va:=some ⟨b,off,none⟩) (m:=m) (vc:=vc) (HP.out.on hf) (HCAR.out.on hf);rw [HNB.out] at h9;rw [hk0];exact h9
 have H45:Hid (∀ W2 ax,Below w.heap.size w W2→IntsAt W2 ax (List.replicate nb 0)→Calls Try.prog 45 #[.slice (some ⟨b,off,none⟩) m vc,.slice ax nb nb] W2 fun e w'=>∃ a c,e=.returned (.slice a (m+nb) c)∧(VsV w' (.slice a (m+nb) c) V2∧(a=none→c=0))∧Below W2.heap.size W2 w'):=fun W2 ax hf hx=>by
  have h9:=uO (n:=nb) (ac:=nb) (PrV.on HV.out hf) HM.out (by omega) hvc hx (by simp) (by omega);rw [← HHV.out] at h9;refine h9.mono ?_;rintro e w' ⟨v,rfl,hr,k9⟩;obtain ⟨a,c,rfl,hz⟩:=hr.shape;rw [HV2L.out] at hr ⊢;exact ⟨a,c,rfl,⟨hr.vs (by rw [HV2L.out];omega),hz⟩,k9⟩
 have H36:Hid (∀ W2 a c,Below w.heap.size w W2→VsV W2 (.slice a (m+nb) c) V2∧(a=none→c=0)→Calls Try.prog 36 #[.agg #[.int .i64 p.dims,.int .i64 p.time.n,.slice ta p.time.cells.length tc,.int .i64 p.dist.n,.slice da p.dist.cells.length dc,.slice va' p.vs.length vc',.slice ja p.js.length jc,.slice sa p.ss.length sc],.int .i64 vi,.slice a (m+nb) c] W2 fun e w'=>∃ v,e=.returned (.tuple #[v,.int .i64 (ofE p vi V2)])∧PlanV w' W2.heap.size v (ofP p vi V2)∧Below W2.heap.size W2 w'):=fun W2 a c hf hv=>by have h9:=uT (vi:=vi) (HP.out.on hf) HL.out hv.1 HV2L.out (by omega) hv.2;exact h9
 obtain ⟨E0,hE0⟩:∃ E0,ofE p vi V2=E0:=⟨_,rfl⟩;obtain ⟨P0,hP0⟩:∃ P0,ofP p vi V2=P0:=⟨_,rfl⟩;rw [hE0] at HN7;simp only [hE0,hP0] at H36;have hE7:E0=167:=HN7.out;subst hE7;have HMI:=hide (fun wx=>Ld.made_ints nb (by omega) wx);have hmi:=fun wx=>Ld.made_ints nb (by omega) wx;clear hE0 hP0 hcar hnb hk0;have hfd9:∀ X,(Instr.field 86 (.agg (eZ (p.vs.getD k vz) (.slice ca (p.vs.getD k vz).cap.length cc) (.slice ba nb bc))) 9).run Try.prog X=.ok (.slice ba nb bc) X:=fun X=>by kernel_rfl
 have HVB:=hide (fL (eC HL.out hk));have HNO:=hide (nD HHB.out);have HBRN:Hid (∀ u ∈ V,u.1=4→∃ j:Nat,u.2=j∧j<(p.vs.getD k vz).brks.length):=fun u hu e=>absurd e (HNO.out u hu)
 have HERR:Hid (dI p (p.vs.getD k vz) (cJ 0 0 (List.replicate nb 0) V)=167):=by
  have h9:=HNE.out;rw [rD (v:=p.vs.getD k vz) (by rw [HVK.out]),HNB.out] at h9;rw [HKI.out,ofE_err hk] at h9;exact h9
 have HM24:Hid (V.length≤24):=ye4 HL.out HVB.out HNO.out (by rw [HNB.out];simp) HERR.out;have hm24:m≤24:=by rw [← HM.out];exact HM24.out
 have HFI:=hide (kV HL.out HVB.out HNO.out (ps0:=List.replicate nb 0) (by rw [HNB.out];simp) HERR.out)
 have HFE:Hid (eD p vi V=(match eE p (p.vs.getD k vz) V with | none=>167 | some ps=>ofE p vi (fB V (ps.map fun n:Nat=>(n:Int))))∧dS p vi V=(match eE p (p.vs.getD k vz) V with | none=>planZ | some ps=>ofP p vi (fB V (ps.map fun n:Nat=>(n:Int))))):=by
  unfold eD dS;rw [HMB.out,HHB.out,HNE.out,HVK.out];exact ⟨rfl,rfl⟩
 have H75:Hid (∀ W2,Below w.heap.size w W2→Calls Try.prog 75 #[.agg #[.int .i64 p.dims,.int .i64 p.time.n,.slice ta p.time.cells.length tc,.int .i64 p.dist.n,.slice da p.dist.cells.length dc,.slice va' p.vs.length vc',.slice ja p.js.length jc,.slice sa p.ss.length sc,.int .i64 vi,.slice (some ⟨b,off,none⟩) m vc]] W2 fun e w'=>∃ a c,e=.returned (.slice a (m+2) c)∧eT w' (.slice a (m+2) c) (aB p (p.vs.getD k vz) V)∧Below W2.heap.size W2 w'):=fun W2 hf=>by
  have h9:=lJ (va:=some ⟨b,off,none⟩) (m:=m) (vc:=vc) (HP.out.on hf) HL.out hk (PrV.on HV.out hf) HM.out (by omega) HBRN.out;rw [← HKI.out] at h9;refine h9.mono ?_;rintro e w' ⟨sv,rfl,Q1,k1⟩;obtain ⟨sA,sC,rfl⟩:=SlV.shape Q1;rw [aO,HM.out] at Q1 ⊢;exact ⟨sA,sC,rfl,Q1,k1⟩
 have HBKS:Hid (∀ W2,Below w.heap.size w W2→BrksV W2 (.slice ba nb bc) (p.vs.getD k vz).brks):=fun W2 hf=>by have h9:=(HCAR.out.brks).on hf;rw [HNB.out] at h9;exact h9
 have HMAT:Hid (∀ W2,Below w.heap.size w W2→IntsV W2 (.slice ta p.time.cells.length tc) p.time.cells):=fun W2 hf=>(HP.out.on hf).t;obtain ⟨v1,hv1⟩:∃ v1,p.vs.getD k vz=v1:=⟨_,rfl⟩;rw [hv1] at H74 hfd9 H75 HBKS HVB HFI HFE;have HNB1:Hid (v1.brks.length=nb):=by rw [← hv1];exact HNB.out
 have hsh:0≤v1.shift.1∧v1.shift.1≤1000000:=by have:=HVB.out.shift;omega
 have hfd4:∀ X,(Instr.field 86 (.agg (eZ v1 (.slice ca v1.cap.length cc) (.slice ba nb bc))) 4).run Try.prog X=.ok (.agg #[.int .i64 v1.shift.1,.int .i64 v1.shift.2]) X:=fun X=>by kernel_rfl
 have hf61:∀ X,(Instr.field 61 (.agg #[.int .i64 v1.shift.1,.int .i64 v1.shift.2]) 0).run Try.prog X=.ok (.int .i64 v1.shift.1) X:=fun X=>by kernel_rfl
 clear hv1;go_enter Try.func40,Try.ntmps40;go_wp2_with (first | (go_at_call 74;refine (H74.out _ (below_on HBW.out E2.out)).mono ?_;rintro e w3 ⟨rfl,k3⟩;have E3:=hide (below_on E2.out k3);clear k3 bt0 bt1 bt2 bt3 bt4 bt5 bt6 bt7 bt8 bt9 bc0 bf0 bc1 bf1 bc2 bf2 bc3 bf3 bc4 bf4 bc5 bf5 bc6 bf6) | (go_at_call 72;refine (H72.out _ (below_on HBW.out E1.out)).mono ?_;rintro e w2 ⟨rfl,k2⟩;rw [HHB.out];have E2:=hide (below_on E1.out k2);obtain ⟨bc0,bc1,bc2,bc3,bc4,bc5,bc6⟩:=Mn.c7 ((fK HX6.out E2.out HX3.out).1);obtain ⟨bf0,bf1,bf2,bf3,bf4,bf5,bf6⟩:=Mn.z7 ((fK HX6.out E2.out HX3.out).2);obtain ⟨bt0,bt1,bt2,bt3,bt4,bt5,bt6,bt7,bt8,bt9⟩:=Mn.c10 (fun j=>((aA E2.out).1 _ j (by rw [HWS.out];omega)).trans (HC.out j));clear k2 at0 at1 at2 at3 at4 at5 at6 at7 at8 at9 ac0 af0 ac1 af1 ac2 af2 ac3 af3 ac4 af4 ac5 af5 ac6 af6) | (go_at_call 71;rw [← hW];refine (H71.out _ HBW.out).mono ?_;rintro e w1 ⟨rfl,k1⟩;rw [HMB.out];have E1:=hide k1;obtain ⟨ac0,ac1,ac2,ac3,ac4,ac5,ac6⟩:=Mn.c7 ((fK HX6.out k1 HX3.out).1);obtain ⟨af0,af1,af2,af3,af4,af5,af6⟩:=Mn.z7 ((fK HX6.out k1 HX3.out).2);obtain ⟨at0,at1,at2,at3,at4,at5,at6,at7,at8,at9⟩:=Mn.c10 (fun j=>((aA k1).1 _ j (by rw [HWS.out];omega)).trans (HC.out j));clear k1) | fail);obtain ⟨w6,hw6⟩:∃ w6,w6=w3.alloc (.cells (Array.replicate nb (.int .i64 0)) 3):=⟨_,rfl⟩;rw [← hw6];have HR6:Hid (IRow w6 w3.heap.size (.slice (some ⟨w3.heap.size,0,none⟩) nb nb) (List.replicate nb 0)):=by show IRow _ _ _ _;rw [hw6];exact Ld.irow_made w3 (Nat.le_refl _) (by omega)
 have E6:Hid (Below W.heap.size W w6):=by show Below _ _ _;rw [hw6];exact below_on E3.out Mn.a
 have n6:W.heap.size≤w6.heap.size:=E6.out.size;have n61:w.heap.size+1<w6.heap.size:=by have:=HX3.out;omega
 have HAB6:Hid (w6.heap[w3.heap.size]? = some (.cells ((List.replicate nb (0:Int)).map (Value.int .i64)).toArray 3)):=by show _=_;rw [hw6,heap_alloc_new];simp
 clear hmi hw6;obtain ⟨cp0,cp1,cp2,cp3,cp4,cp5,cp6,cp7⟩:=Mn.c8 (fun j=>((aA E6.out).1 _ j (by rw [HWS.out];omega)).trans (HC0.out j))
 go_cut [11] from 29 to 37 (fun v11 wx=>v11=.int .i64 167∧Hid (Below w6.heap.size w6 wx))
 case first =>
  refine wp_region_held_drew (S:=(fun w'=>w'.cell? ⟨w.heap.size,0,none⟩=some (.int .i64 p.dims)∧w'.cell? ⟨w.heap.size,1,none⟩=some (.int .i64 p.time.n)∧w'.cell? ⟨w.heap.size,2,none⟩=some (.slice ta p.time.cells.length tc)∧w'.cell? ⟨w.heap.size,3,none⟩=some (.int .i64 p.dist.n)∧w'.cell? ⟨w.heap.size,4,none⟩=some (.slice da p.dist.cells.length dc)∧w'.cell? ⟨w.heap.size,5,none⟩=some (.slice va' p.vs.length vc')∧w'.cell? ⟨w.heap.size,6,none⟩=some (.slice ja p.js.length jc)∧w'.cell? ⟨w.heap.size,7,none⟩=some (.slice sa p.ss.length sc))) (by kernel_rfl) ?_ (fun hHeld0=>?_)
  · (try dsimp only);go_keep
  refine Mn.t 0 (oi:=⟨some 30,.load 29 (.tmp 3),29,"plan.go:51",#[],none⟩) ?_;(try simp only [Act.put,Mn.q]);refine Mn.t 1 (oi:=⟨some 31,.move (.tmp 1),3,"plan.go:51",#[],none⟩) ?_;(try simp only [Act.put,Mn.q]);refine Mn.t 2 (oi:=⟨some 32,.move (.tmp 2),55,"plan.go:51",#[],none⟩) ?_;(try simp only [Act.put,Mn.q]);refine Mn.t 3 (oi:=⟨some 33,.move (.tmp 9),22,"plan.go:51",#[],none⟩) ?_;(try simp only [Act.put,Mn.q]);refine wpAnyH_ready (rs:=[4,9]) (by kernel_rfl) (by simp) ?_;refine AllReadyH.cons (o:=⟨some 34,.call { callee:=.value (.func 45),args:=#[.tmp 32,.tmp 33],argTypes:=#[55,22] },55,"plan.go:51",#[⟨2,.data⟩,⟨3,.data⟩],none⟩) rfl (fun K hK=>?_) ?_
  ·(refine aG (by rfl) 45 _ _ (by rfl) vA [.slice (some ⟨b,off,none⟩) m vc,.slice (some ⟨w3.heap.size,0,none⟩) nb nb] (by rfl) ?_;refine (H45.out _ _ (below_on HBW.out (below_on E6.out ((Below.refl _ _).drew))) ((IRow.ints HR6.out).later ((Below.refl _ _).drew))).mono ?_;rintro e w7 ⟨a7,c7,rfl,hv7,k7⟩;refine ⟨_,rfl,?_⟩;have HV7:=hide hv7;have K7:=hide (below_on ((Below.refl _ _).drew) k7);have E7:=hide (below_on E6.out K7.out);have n7:w6.heap.size≤w7.heap.size:=K7.out.size;obtain ⟨dp0,dp1,dp2,dp3,dp4,dp5,dp6,dp7⟩:=Mn.c8 (fun j=>((aA E7.out).1 _ j (by rw [HWS.out];omega)).trans (HC0.out j));clear k7 hv7)
   refine hK.out _ _ ?_ (fun hHeld1=>?_)
   · (try dsimp only);go_keep
   clear hK K;(try simp only [Act.put,Mn.q]);clear hHeld0;refine wpAnyH_ready (rs:=[5,9]) (by kernel_rfl) (by simp) ?_;refine AllReadyH.cons (o:=⟨some 35,.call { callee:=.value (.func 36),args:=#[.tmp 30,.tmp 31,.tmp 34],argTypes:=#[29,3,55] },72,"plan.go:51",#[⟨0,.data⟩,⟨1,.data⟩,⟨4,.data⟩,⟨4,.chain⟩],none⟩) rfl (fun K hK=>?_) ?_
   ·(refine aG (by rfl) 36 _ _ (by rfl) oJ [.agg #[.int .i64 p.dims,.int .i64 p.time.n,.slice ta p.time.cells.length tc,.int .i64 p.dist.n,.slice da p.dist.cells.length dc,.slice va' p.vs.length vc',.slice ja p.js.length jc,.slice sa p.ss.length sc],.int .i64 vi,.slice a7 (m+nb) c7] (by rfl) ?_;refine (H36.out _ _ _ (below_on HBW.out (below_on E7.out (Below.refl _ _))) ⟨PrV.on HV7.out.1 (Below.refl _ _),HV7.out.2⟩).mono ?_;rintro e w8 ⟨v8,rfl,hp8,k8⟩;refine ⟨_,rfl,?_⟩;have HPL:=hide hp8;have K8:=hide (below_on (Below.refl _ _) k8);have E8:=hide (below_on E7.out K8.out);have n8:w7.heap.size≤w8.heap.size:=K8.out.size;obtain ⟨pa,pn,pc,ys,rfl,_,_,_⟩:=hp8;unfold bV at HPL ⊢;obtain ⟨ep0,ep1,ep2,ep3,ep4,ep5,ep6,ep7⟩:=Mn.c8 (fun j=>((aA E8.out).1 _ j (by rw [HWS.out];omega)).trans (HC0.out j));obtain ⟨ec0,ec1,ec2,ec3,ec4,ec5,ec6⟩:=Mn.c7 ((fK HX6.out E8.out HX3.out).1);obtain ⟨ef0,ef1,ef2,ef3,ef4,ef5,ef6⟩:=Mn.z7 ((fK HX6.out E8.out HX3.out).2);have m80:¬ w.heap.size=w8.heap.size:=(by omega);have m81:¬ w.heap.size+1=w8.heap.size:=(by omega);clear k8)
    refine hK.out _ _ ?_ (fun hHeld2=>?_)
    · (try dsimp only);go_keep
    clear hK K;(try simp only [Act.put,Mn.q]);clear hHeld1;refine Mn.t 6 (oi:=⟨some 29,.move (.tmp 35),72,"plan.go:51",#[⟨5,.data⟩],none⟩) ?_;(try simp only [Act.put,Mn.q]);refine Mn.t 7 (oi:=⟨some 36,.extract (.tmp 29) 0,71,"plan.go:51",#[⟨6,.data⟩],none⟩) ?_;(try simp only [Act.put,Mn.q]);refine Mn.t 8 (oi:=⟨some 37,.extract (.tmp 29) 1,62,"plan.go:51",#[⟨6,.data⟩,⟨10,.gcOnly .lateStores⟩],none⟩) ?_;(try simp only [Act.put,Mn.q]);refine wpAnyH_ready (rs:=[9]) (by kernel_rfl) (by simp) ?_;refine AllReadyH.cons (o:=⟨some 10,.alloc 71,0,"plan.go:51",#[],none⟩) rfl (fun K hK=>?_) ?_
    ·go_simp
     refine hK.out _ _ ?_ (fun hHeld3=>?_)
     · (try dsimp only);go_keep
     clear hK K;(try simp only [Act.put,Mn.q]);clear hHeld2;refine wpAnyH_ready (rs:=[10]) (by kernel_rfl) (by simp) ?_;refine AllReadyH.cons (o:=⟨none,.store 71 (.tmp 10) (.tmp 36),0,"plan.go:51",#[⟨9,.data⟩,⟨7,.data⟩,⟨5,.chain⟩,⟨0,.phase⟩,⟨1,.phase⟩,⟨2,.phase⟩,⟨3,.phase⟩,⟨4,.phase⟩,⟨5,.phase⟩,⟨6,.phase⟩,⟨7,.phase⟩,⟨8,.textOnly .lateStores⟩,⟨9,.phase⟩],none⟩) rfl (fun K hK=>?_) ?_
     ·go_simp
      refine hK.out _ _ ?_ (fun hHeld4=>?_)
      · (try dsimp only);(first | (go_keep;done) | (refine ⟨?_,?_,?_,?_,?_,?_,?_,?_⟩ <;> (refine bB (w:=w8) ?_ (by assumption);(repeat rw [heap_setCell_other _ _ _ _ (by simp;omega)]))))
      clear hK K;(try simp only [Act.put,Mn.q]);clear hHeld3;refine Mn.t 11 (oi:=⟨some 11,.assign (.tmp 37),62,"plan.go:51",#[⟨8,.data⟩,⟨10,.chain⟩,⟨0,.phase⟩,⟨1,.phase⟩,⟨2,.phase⟩,⟨3,.phase⟩,⟨4,.phase⟩,⟨5,.phase⟩,⟨6,.phase⟩,⟨7,.phase⟩,⟨8,.phase⟩,⟨9,.phase⟩,⟨10,.phase⟩],none⟩) ?_;(try simp only [Act.put,Mn.q]);refine wpAnyH_done (by kernel_rfl) ?_ _;clear hHeld4;go_wp2_with fail;go_meet
      case rel =>
        refine ⟨rfl,?_⟩;show Below _ _ _;have HBE:=below_on K7.out K8.out
        repeat (first | (with_reducible exact HBE) | (with_reducible refine Below.setCell ?_ (by (try simp);(try omega)) _) | (with_reducible refine Below.alloc ?_ (by omega) _) | (with_reducible refine Below.drew ?_))
     exact AllReadyH.nil
    exact AllReadyH.nil
   refine AllReadyH.cons (o:=⟨some 10,.alloc 71,0,"plan.go:51",#[],none⟩) rfl (fun K hK=>?_) ?_
   ·go_simp
    refine hK.out _ _ ?_ (fun hHeld5=>?_)
    · (try dsimp only);go_keep
    clear hK K;(try simp only [Act.put,Mn.q]);clear hHeld1;refine wpAnyH_ready (rs:=[5]) (by kernel_rfl) (by simp) ?_;refine AllReadyH.cons (o:=⟨some 35,.call { callee:=.value (.func 36),args:=#[.tmp 30,.tmp 31,.tmp 34],argTypes:=#[29,3,55] },72,"plan.go:51",#[⟨0,.data⟩,⟨1,.data⟩,⟨4,.data⟩,⟨4,.chain⟩],none⟩) rfl (fun K hK=>?_) ?_
    ·(refine aG (by rfl) 36 _ _ (by rfl) oJ [.agg #[.int .i64 p.dims,.int .i64 p.time.n,.slice ta p.time.cells.length tc,.int .i64 p.dist.n,.slice da p.dist.cells.length dc,.slice va' p.vs.length vc',.slice ja p.js.length jc,.slice sa p.ss.length sc],.int .i64 vi,.slice a7 (m+nb) c7] (by rfl) ?_;refine (H36.out _ _ _ (below_on HBW.out (below_on E7.out Mn.a)) ⟨PrV.on HV7.out.1 Mn.a,HV7.out.2⟩).mono ?_;rintro e w8 ⟨v8,rfl,hp8,k8⟩;refine ⟨_,rfl,?_⟩;have HPL:=hide hp8;have K8:=hide (below_on Mn.a k8);have E8:=hide (below_on E7.out K8.out);have n8:w7.heap.size≤w8.heap.size:=K8.out.size;obtain ⟨pa,pn,pc,ys,rfl,_,_,_⟩:=hp8;unfold bV at HPL ⊢;obtain ⟨ep0,ep1,ep2,ep3,ep4,ep5,ep6,ep7⟩:=Mn.c8 (fun j=>((aA E8.out).1 _ j (by rw [HWS.out];omega)).trans (HC0.out j));obtain ⟨ec0,ec1,ec2,ec3,ec4,ec5,ec6⟩:=Mn.c7 ((fK HX6.out E8.out HX3.out).1);obtain ⟨ef0,ef1,ef2,ef3,ef4,ef5,ef6⟩:=Mn.z7 ((fK HX6.out E8.out HX3.out).2);have HX8:Hid (w8.heap[w7.heap.size]? = some (.cells #[.int .i64 0,.slice none 0 0,.int .i64 0,.int .i64 0,.int .i64 0,.int .i64 0,.int .i64 0] 71)):=(k8.block _ (by simp)).trans (heap_alloc_new w7 _);have n81:w7.heap.size<w8.heap.size:=(by have:=k8.size;simp at this;omega);have m80:¬ w.heap.size=w7.heap.size:=(by omega);have m81:¬ w.heap.size+1=w7.heap.size:=(by omega);obtain ⟨gc0,gc1,gc2,gc3,gc4,gc5,gc6,gf0,gf1,gf2,gf3,gf4,gf5,gf6⟩:=Mn.x7 (HX8.out);clear k8)
     refine hK.out _ _ ?_ (fun hHeld6=>?_)
     · (try dsimp only);go_keep
     clear hK K;(try simp only [Act.put,Mn.q]);clear hHeld5;refine Mn.t 6 (oi:=⟨some 29,.move (.tmp 35),72,"plan.go:51",#[⟨5,.data⟩],none⟩) ?_;(try simp only [Act.put,Mn.q]);refine Mn.t 7 (oi:=⟨some 36,.extract (.tmp 29) 0,71,"plan.go:51",#[⟨6,.data⟩],none⟩) ?_;(try simp only [Act.put,Mn.q]);refine Mn.t 8 (oi:=⟨some 37,.extract (.tmp 29) 1,62,"plan.go:51",#[⟨6,.data⟩,⟨10,.gcOnly .lateStores⟩],none⟩) ?_;(try simp only [Act.put,Mn.q]);refine wpAnyH_ready (rs:=[10]) (by kernel_rfl) (by simp) ?_;refine AllReadyH.cons (o:=⟨none,.store 71 (.tmp 10) (.tmp 36),0,"plan.go:51",#[⟨9,.data⟩,⟨7,.data⟩,⟨5,.chain⟩,⟨0,.phase⟩,⟨1,.phase⟩,⟨2,.phase⟩,⟨3,.phase⟩,⟨4,.phase⟩,⟨5,.phase⟩,⟨6,.phase⟩,⟨7,.phase⟩,⟨8,.textOnly .lateStores⟩,⟨9,.phase⟩],none⟩) rfl (fun K hK=>?_) ?_
     ·go_simp
      refine hK.out _ _ ?_ (fun hHeld7=>?_)
      · (try dsimp only);(first | (go_keep;done) | (refine ⟨?_,?_,?_,?_,?_,?_,?_,?_⟩ <;> (refine bB (w:=w8) ?_ (by assumption);(repeat rw [heap_setCell_other _ _ _ _ (by simp;omega)]))))
      clear hK K;(try simp only [Act.put,Mn.q]);clear hHeld6;refine Mn.t 11 (oi:=⟨some 11,.assign (.tmp 37),62,"plan.go:51",#[⟨8,.data⟩,⟨10,.chain⟩,⟨0,.phase⟩,⟨1,.phase⟩,⟨2,.phase⟩,⟨3,.phase⟩,⟨4,.phase⟩,⟨5,.phase⟩,⟨6,.phase⟩,⟨7,.phase⟩,⟨8,.phase⟩,⟨9,.phase⟩,⟨10,.phase⟩],none⟩) ?_;(try simp only [Act.put,Mn.q]);refine wpAnyH_done (by kernel_rfl) ?_ _;clear hHeld7;go_wp2_with fail;go_meet
      case rel =>
        refine ⟨rfl,?_⟩;show Below _ _ _;have HBE:=below_on K7.out K8.out
        repeat (first | (with_reducible exact HBE) | (with_reducible refine Below.setCell ?_ (by (try simp);(try omega)) _) | (with_reducible refine Below.alloc ?_ (by omega) _) | (with_reducible refine Below.drew ?_))
     exact AllReadyH.nil
    exact AllReadyH.nil
   exact AllReadyH.nil
  refine AllReadyH.cons (o:=⟨some 10,.alloc 71,0,"plan.go:51",#[],none⟩) rfl (fun K hK=>?_) ?_
  ·go_simp
   refine hK.out _ _ ?_ (fun hHeld8=>?_)
   · (try dsimp only);go_keep
   clear hK K;(try simp only [Act.put,Mn.q]);clear hHeld0;refine wpAnyH_ready (rs:=[4]) (by kernel_rfl) (by simp) ?_;refine AllReadyH.cons (o:=⟨some 34,.call { callee:=.value (.func 45),args:=#[.tmp 32,.tmp 33],argTypes:=#[55,22] },55,"plan.go:51",#[⟨2,.data⟩,⟨3,.data⟩],none⟩) rfl (fun K hK=>?_) ?_
   ·(refine aG (by rfl) 45 _ _ (by rfl) vA [.slice (some ⟨b,off,none⟩) m vc,.slice (some ⟨w3.heap.size,0,none⟩) nb nb] (by rfl) ?_;refine (H45.out _ _ (below_on HBW.out (below_on E6.out (below_on ((Below.refl _ _).drew) Mn.a))) ((IRow.ints HR6.out).later (below_on ((Below.refl _ _).drew) Mn.a))).mono ?_;rintro e w7 ⟨a7,c7,rfl,hv7,k7⟩;refine ⟨_,rfl,?_⟩;have HV7:=hide hv7;have K7:=hide (below_on (below_on ((Below.refl _ _).drew) Mn.a) k7);have E7:=hide (below_on E6.out K7.out);have n7:w6.heap.size≤w7.heap.size:=K7.out.size;obtain ⟨dp0,dp1,dp2,dp3,dp4,dp5,dp6,dp7⟩:=Mn.c8 (fun j=>((aA E7.out).1 _ j (by rw [HWS.out];omega)).trans (HC0.out j));have HX7:Hid (w7.heap[w6.heap.size]? = some (.cells #[.int .i64 0,.slice none 0 0,.int .i64 0,.int .i64 0,.int .i64 0,.int .i64 0,.int .i64 0] 71)):=(k7.block _ (by simp)).trans (heap_alloc_new w6.drew _);have n71:w6.heap.size<w7.heap.size:=(by have:=k7.size;simp at this;omega);clear k7 hv7)
    refine hK.out _ _ ?_ (fun hHeld9=>?_)
    · (try dsimp only);go_keep
    clear hK K;(try simp only [Act.put,Mn.q]);clear hHeld8;refine wpAnyH_ready (rs:=[5]) (by kernel_rfl) (by simp) ?_;refine AllReadyH.cons (o:=⟨some 35,.call { callee:=.value (.func 36),args:=#[.tmp 30,.tmp 31,.tmp 34],argTypes:=#[29,3,55] },72,"plan.go:51",#[⟨0,.data⟩,⟨1,.data⟩,⟨4,.data⟩,⟨4,.chain⟩],none⟩) rfl (fun K hK=>?_) ?_
    ·(refine aG (by rfl) 36 _ _ (by rfl) oJ [.agg #[.int .i64 p.dims,.int .i64 p.time.n,.slice ta p.time.cells.length tc,.int .i64 p.dist.n,.slice da p.dist.cells.length dc,.slice va' p.vs.length vc',.slice ja p.js.length jc,.slice sa p.ss.length sc],.int .i64 vi,.slice a7 (m+nb) c7] (by rfl) ?_;refine (H36.out _ _ _ (below_on HBW.out (below_on E7.out (Below.refl _ _))) ⟨PrV.on HV7.out.1 (Below.refl _ _),HV7.out.2⟩).mono ?_;rintro e w8 ⟨v8,rfl,hp8,k8⟩;refine ⟨_,rfl,?_⟩;have HPL:=hide hp8;have K8:=hide (below_on (Below.refl _ _) k8);have E8:=hide (below_on E7.out K8.out);have n8:w7.heap.size≤w8.heap.size:=K8.out.size;obtain ⟨pa,pn,pc,ys,rfl,_,_,_⟩:=hp8;unfold bV at HPL ⊢;obtain ⟨ep0,ep1,ep2,ep3,ep4,ep5,ep6,ep7⟩:=Mn.c8 (fun j=>((aA E8.out).1 _ j (by rw [HWS.out];omega)).trans (HC0.out j));obtain ⟨ec0,ec1,ec2,ec3,ec4,ec5,ec6⟩:=Mn.c7 ((fK HX6.out E8.out HX3.out).1);obtain ⟨ef0,ef1,ef2,ef3,ef4,ef5,ef6⟩:=Mn.z7 ((fK HX6.out E8.out HX3.out).2);have HX8:Hid (w8.heap[w6.heap.size]? = some (.cells #[.int .i64 0,.slice none 0 0,.int .i64 0,.int .i64 0,.int .i64 0,.int .i64 0,.int .i64 0] 71)):=(K8.out.block _ n71).trans HX7.out;have m80:¬ w.heap.size=w6.heap.size:=(by omega);have m81:¬ w.heap.size+1=w6.heap.size:=(by omega);obtain ⟨gc0,gc1,gc2,gc3,gc4,gc5,gc6,gf0,gf1,gf2,gf3,gf4,gf5,gf6⟩:=Mn.x7 (HX8.out);clear k8)
     refine hK.out _ _ ?_ (fun hHeld10=>?_)
     · (try dsimp only);go_keep
     clear hK K;(try simp only [Act.put,Mn.q]);clear hHeld9;refine Mn.t 6 (oi:=⟨some 29,.move (.tmp 35),72,"plan.go:51",#[⟨5,.data⟩],none⟩) ?_;(try simp only [Act.put,Mn.q]);refine Mn.t 7 (oi:=⟨some 36,.extract (.tmp 29) 0,71,"plan.go:51",#[⟨6,.data⟩],none⟩) ?_;(try simp only [Act.put,Mn.q]);refine Mn.t 8 (oi:=⟨some 37,.extract (.tmp 29) 1,62,"plan.go:51",#[⟨6,.data⟩,⟨10,.gcOnly .lateStores⟩],none⟩) ?_;(try simp only [Act.put,Mn.q]);refine wpAnyH_ready (rs:=[10]) (by kernel_rfl) (by simp) ?_;refine AllReadyH.cons (o:=⟨none,.store 71 (.tmp 10) (.tmp 36),0,"plan.go:51",#[⟨9,.data⟩,⟨7,.data⟩,⟨5,.chain⟩,⟨0,.phase⟩,⟨1,.phase⟩,⟨2,.phase⟩,⟨3,.phase⟩,⟨4,.phase⟩,⟨5,.phase⟩,⟨6,.phase⟩,⟨7,.phase⟩,⟨8,.textOnly .lateStores⟩,⟨9,.phase⟩],none⟩) rfl (fun K hK=>?_) ?_
     ·go_simp
      refine hK.out _ _ ?_ (fun hHeld11=>?_)
      · (try dsimp only);(first | (go_keep;done) | (refine ⟨?_,?_,?_,?_,?_,?_,?_,?_⟩ <;> (refine bB (w:=w8) ?_ (by assumption);(repeat rw [heap_setCell_other _ _ _ _ (by simp;omega)]))))
      clear hK K;(try simp only [Act.put,Mn.q]);clear hHeld10;refine Mn.t 11 (oi:=⟨some 11,.assign (.tmp 37),62,"plan.go:51",#[⟨8,.data⟩,⟨10,.chain⟩,⟨0,.phase⟩,⟨1,.phase⟩,⟨2,.phase⟩,⟨3,.phase⟩,⟨4,.phase⟩,⟨5,.phase⟩,⟨6,.phase⟩,⟨7,.phase⟩,⟨8,.phase⟩,⟨9,.phase⟩,⟨10,.phase⟩],none⟩) ?_;(try simp only [Act.put,Mn.q]);refine wpAnyH_done (by kernel_rfl) ?_ _;clear hHeld11;go_wp2_with fail;go_meet
      case rel =>
        refine ⟨rfl,?_⟩;show Below _ _ _;have HBE:=below_on K7.out K8.out
        repeat (first | (with_reducible exact HBE) | (with_reducible refine Below.setCell ?_ (by (try simp);(try omega)) _) | (with_reducible refine Below.alloc ?_ (by omega) _) | (with_reducible refine Below.drew ?_))
     exact AllReadyH.nil
    exact AllReadyH.nil
   exact AllReadyH.nil
  exact AllReadyH.nil
 case rest =>
  rename World=>wk;obtain ⟨rfl,HC6⟩:=hcut;have EW:Hid (Below W.heap.size W wk):=below_on E6.out HC6.out;have i24:¬ (m:Int)>24:=by omega
  have i24':¬ (24:Int)<(m:Int):=by omega
  have in2:¬ (nb:Int)>2:=by omega
  have in2':¬ (2:Int)<(nb:Int):=by omega
  have LAB:Hid (w3.heap.size<w6.heap.size):=aD HAB6.out;clear cp0 cp1 cp2 cp3 cp4 cp5 cp6 cp7;obtain ⟨fp0,fp1,fp2,fp3,fp4,fp5,fp6,fp7⟩:=Mn.c8 (fun j=>((aA EW.out).1 _ j (by rw [HWS.out];omega)).trans (HC0.out j));obtain ⟨ft0,ft1,ft2,ft3,ft4,ft5,ft6,ft7,ft8,ft9⟩:=Mn.c10 (fun j=>((aA EW.out).1 _ j (by rw [HWS.out];omega)).trans (HC.out j));have nc0:¬ w.heap.size=wk.heap.size:=by have:=EW.out.size;have:=HWS.out;omega
  have nc2:¬ w.heap.size+1+1=wk.heap.size:=by have:=EW.out.size;have:=HWS.out;omega
  go_wp2_with fail
  go_cut [12] from 51 to 59 (fun v12 wx=>∃ sb,v12=.pointer (some ⟨sb,0,none⟩)∧Hid (∃ sA sC,SrW wx p v1 V sb w3.heap.size (m+2) nb tc sC bc ta sA ba (List.replicate nb 0))∧Hid (Below w6.heap.size w6 wx)∧w6.heap.size≤sb)
  case first =>
    refine wp_region_held_drew (S:=(fun w'=>w'.cell? ⟨w.heap.size,1,none⟩=some (.int .i64 p.time.n)∧w'.cell? ⟨w.heap.size,2,none⟩=some (.slice ta p.time.cells.length tc)∧w'.cell? ⟨w.heap.size+1+1,0,none⟩=some (.int .i64 p.dims)∧w'.cell? ⟨w.heap.size+1+1,1,none⟩=some (.int .i64 p.time.n)∧w'.cell? ⟨w.heap.size+1+1,2,none⟩=some (.slice ta p.time.cells.length tc)∧w'.cell? ⟨w.heap.size+1+1,3,none⟩=some (.int .i64 p.dist.n)∧w'.cell? ⟨w.heap.size+1+1,4,none⟩=some (.slice da p.dist.cells.length dc)∧w'.cell? ⟨w.heap.size+1+1,5,none⟩=some (.slice va' p.vs.length vc')∧w'.cell? ⟨w.heap.size+1+1,6,none⟩=some (.slice ja p.js.length jc)∧w'.cell? ⟨w.heap.size+1+1,7,none⟩=some (.slice sa p.ss.length sc)∧w'.cell? ⟨w.heap.size+1+1,8,none⟩=some (.int .i64 vi)∧w'.cell? ⟨w.heap.size+1+1,9,none⟩=some (.slice (some ⟨b,off,none⟩) m vc))) (by kernel_rfl) ?_ (fun hHeld0=>?_)
    · (try dsimp only);go_keep
    refine Mn.t 0 (oi:=⟨some 51,.fieldAddr 29 (.tmp 3) 1,0,"plan.go:59",#[],none⟩) ?_;(try simp only [Act.put,Mn.q]);refine Mn.t 1 (oi:=⟨some 52,.load 24 (.tmp 51),24,"plan.go:59",#[⟨0,.data⟩],none⟩) ?_;(try simp only [Act.put,Mn.q]);refine Mn.t 2 (oi:=⟨some 53,.load 121 (.tmp 8),121,"plan.go:59",#[],none⟩) ?_;(try simp only [Act.put,Mn.q]);refine Mn.t 4 (oi:=⟨some 55,.load 121 (.tmp 8),121,"plan.go:59",#[],none⟩) ?_;(try simp only [Act.put,Mn.q]);refine Mn.t 7 (oi:=⟨some 58,.move (.tmp 9),22,"plan.go:59",#[],none⟩) ?_;(try simp only [Act.put,Mn.q]);refine wpAnyH_ready (rs:=[3,9]) (by kernel_rfl) (by simp) ?_;refine AllReadyH.cons (o:=⟨some 54,.call { callee:=.value (.func 75),args:=#[.tmp 53],argTypes:=#[121] },132,"plan.go:59",#[⟨2,.data⟩],none⟩) rfl (fun K hK=>?_) ?_
    ·(refine aG (by rfl) 75 _ _ (by rfl) yfC [.agg #[.int .i64 p.dims,.int .i64 p.time.n,.slice ta p.time.cells.length tc,.int .i64 p.dist.n,.slice da p.dist.cells.length dc,.slice va' p.vs.length vc',.slice ja p.js.length jc,.slice sa p.ss.length sc,.int .i64 vi,.slice (some ⟨b,off,none⟩) m vc]] (by rfl) ?_;refine (H75.out _ (below_on HBW.out (below_on EW.out ((Below.refl _ _).drew)))).mono ?_;rintro e wa ⟨sA,sC,rfl,Q9,k9⟩;refine ⟨_,rfl,?_⟩;have HSTa:=hide Q9;have Ka:=hide (below_on ((Below.refl _ _).drew) k9);have Ea:=hide (below_on EW.out Ka.out);have gp1:wa.cell? ⟨w.heap.size,1,none⟩=some (.int .i64 p.time.n):=((aA Ea.out).1 _ 1 (by rw [HWS.out];omega)).trans (HC0.out 1);have gp2:wa.cell? ⟨w.heap.size,2,none⟩=some (.slice ta p.time.cells.length tc):=((aA Ea.out).1 _ 2 (by rw [HWS.out];omega)).trans (HC0.out 2);obtain ⟨gt0,gt1,gt2,gt3,gt4,gt5,gt6,gt7,gt8,gt9⟩:=Mn.c10 (fun j=>((aA Ea.out).1 _ j (by rw [HWS.out];omega)).trans (HC.out j));have na0:¬ w.heap.size=wa.heap.size:=(by have:=Ea.out.size;have:=HWS.out;omega);have na2:¬ w.heap.size+1+1=wa.heap.size:=(by have:=Ea.out.size;have:=HWS.out;omega);clear k9 Q9)
     refine hK.out _ _ ?_ (fun hHeld1=>?_)
     · (try dsimp only);go_keep
     clear hK K;(try simp only [Act.put,Mn.q]);clear hHeld0;refine wpAnyH_ready (rs:=[5,9]) (by kernel_rfl) (by simp) ?_;refine AllReadyH.cons (o:=⟨some 56,.call { callee:=.value (.func 74),args:=#[.tmp 55],argTypes:=#[121] },86,"plan.go:59",#[⟨4,.data⟩,⟨3,.chain⟩],none⟩) rfl (fun K hK=>?_) ?_
     ·(refine aG (by rfl) 74 _ _ (by rfl) zR [.agg #[.int .i64 p.dims,.int .i64 p.time.n,.slice ta p.time.cells.length tc,.int .i64 p.dist.n,.slice da p.dist.cells.length dc,.slice va' p.vs.length vc',.slice ja p.js.length jc,.slice sa p.ss.length sc,.int .i64 vi,.slice (some ⟨b,off,none⟩) m vc]] (by rfl) ?_;refine (H74.out _ (below_on HBW.out (below_on Ea.out (Below.refl _ _)))).mono ?_;rintro e wb ⟨rfl,k9⟩;refine ⟨_,rfl,?_⟩;have Kb:=hide (below_on (Below.refl _ _) k9);have Eb:=hide (below_on Ea.out Kb.out);have HSTb:=hide (SlV.on HSTa.out Kb.out (by decide) fun _ _=>StpV.on Kb.out);have Kc:=hide (below_on Ka.out Kb.out);have hp1:wb.cell? ⟨w.heap.size,1,none⟩=some (.int .i64 p.time.n):=((aA Eb.out).1 _ 1 (by rw [HWS.out];omega)).trans (HC0.out 1);have hp2:wb.cell? ⟨w.heap.size,2,none⟩=some (.slice ta p.time.cells.length tc):=((aA Eb.out).1 _ 2 (by rw [HWS.out];omega)).trans (HC0.out 2);obtain ⟨ht0,ht1,ht2,ht3,ht4,ht5,ht6,ht7,ht8,ht9⟩:=Mn.c10 (fun j=>((aA Eb.out).1 _ j (by rw [HWS.out];omega)).trans (HC.out j));have nb0:¬ w.heap.size=wb.heap.size:=(by have:=Eb.out.size;have:=HWS.out;omega);have nb2:¬ w.heap.size+1+1=wb.heap.size:=(by have:=Eb.out.size;have:=HWS.out;omega);clear k9)
      refine hK.out _ _ ?_ (fun hHeld2=>?_)
      · (try dsimp only);go_keep
      clear hK K;(try simp only [Act.put,Mn.q]);clear hHeld1;refine Mn.t 6 (oi:=⟨some 57,.field 86 (.tmp 56) 9,84,"plan.go:59",#[⟨5,.data⟩],none⟩) ?_;(try simp only [Act.put,Mn.q]);refine Mn.t 8 (oi:=⟨some 59,.build 135 #[(0,.tmp 52),(1,.tmp 54),(2,.tmp 57),(3,.tmp 58)],135,"plan.go:59",#[⟨1,.data⟩,⟨3,.data⟩,⟨6,.data⟩,⟨7,.data⟩],none⟩) ?_;(try simp only [Act.put,Mn.q]);refine wpAnyH_ready (rs:=[9]) (by kernel_rfl) (by simp) ?_;refine AllReadyH.cons (o:=⟨some 12,.alloc 135,0,"plan.go:59",#[],none⟩) rfl (fun K hK=>?_) ?_
      ·go_simp
       refine hK.out _ _ ?_ (fun hHeld3=>?_)
       · (try dsimp only);go_keep
       clear hK K;(try simp only [Act.put,Mn.q]);clear hHeld2;refine wpAnyH_ready (rs:=[10]) (by kernel_rfl) (by simp) ?_;refine AllReadyH.cons (o:=⟨none,.store 135 (.tmp 12) (.tmp 59),0,"plan.go:59",#[⟨9,.data⟩,⟨8,.data⟩,⟨5,.chain⟩,⟨0,.phase⟩,⟨1,.phase⟩,⟨2,.phase⟩,⟨3,.phase⟩,⟨4,.phase⟩,⟨5,.phase⟩,⟨6,.phase⟩,⟨7,.phase⟩,⟨8,.phase⟩,⟨9,.phase⟩],none⟩) rfl (fun K hK=>?_) ?_
       ·go_simp
        refine hK.out _ _ ?_ (fun hHeld4=>?_)
        · (try dsimp only);(first | (go_keep;done) | (refine ⟨?_,?_,?_,?_,?_,?_,?_,?_,?_,?_,?_,?_⟩ <;> (refine bB (w:=wb) ?_ (by assumption);(repeat rw [heap_setCell_other _ _ _ _ (by simp;omega)]))))
        clear hK K;(try simp only [Act.put,Mn.q]);clear hHeld3;refine wpAnyH_done (by kernel_rfl) ?_ _;clear hHeld4;go_wp2_with fail;go_meet
        case rel =>
          have hz1:=heap_alloc_new wb (.cells #[.int .i64 p.time.n,.slice ta p.time.cells.length tc,.slice sA (m+2) sC,.slice ba nb bc,.slice (some ⟨w3.heap.size,0,none⟩) nb nb] 135);have kz:Below wb.heap.size wb (wb.alloc (.cells #[.int .i64 p.time.n,.slice ta p.time.cells.length tc,.slice sA (m+2) sC,.slice ba nb bc,.slice (some ⟨w3.heap.size,0,none⟩) nb nb] 135)):=Mn.a;refine ⟨wb.heap.size,rfl,⟨_,_,qG HBKS.out HMAT.out (below_on HBW.out EW.out) (below_on Kc.out kz) (SlV.on HSTb.out kz (by decide) fun _ _=>StpV.on kz) hz1 (by have:=LAB.out;have:=HC6.out.size;have:=Kc.out.size;exact ⟨by omega,by omega⟩) (HC6.out.block _ LAB.out |>.trans HAB6.out) (by simp)⟩,below_on HC6.out (below_on Kc.out kz),by have:=HC6.out.size;have:=Kc.out.size;omega⟩
       exact AllReadyH.nil
      exact AllReadyH.nil
     refine AllReadyH.cons (o:=⟨some 12,.alloc 135,0,"plan.go:59",#[],none⟩) rfl (fun K hK=>?_) ?_
     ·go_simp
      refine hK.out _ _ ?_ (fun hHeld5=>?_)
      · (try dsimp only);go_keep
      clear hK K;(try simp only [Act.put,Mn.q]);clear hHeld1;refine wpAnyH_ready (rs:=[5]) (by kernel_rfl) (by simp) ?_;refine AllReadyH.cons (o:=⟨some 56,.call { callee:=.value (.func 74),args:=#[.tmp 55],argTypes:=#[121] },86,"plan.go:59",#[⟨4,.data⟩,⟨3,.chain⟩],none⟩) rfl (fun K hK=>?_) ?_
      ·(refine aG (by rfl) 74 _ _ (by rfl) zR [.agg #[.int .i64 p.dims,.int .i64 p.time.n,.slice ta p.time.cells.length tc,.int .i64 p.dist.n,.slice da p.dist.cells.length dc,.slice va' p.vs.length vc',.slice ja p.js.length jc,.slice sa p.ss.length sc,.int .i64 vi,.slice (some ⟨b,off,none⟩) m vc]] (by rfl) ?_;refine (H74.out _ (below_on HBW.out (below_on Ea.out Mn.a))).mono ?_;rintro e wb ⟨rfl,k9⟩;refine ⟨_,rfl,?_⟩;have Kb:=hide (below_on Mn.a k9);have Eb:=hide (below_on Ea.out Kb.out);have HSTb:=hide (SlV.on HSTa.out Kb.out (by decide) fun _ _=>StpV.on Kb.out);have Kc:=hide (below_on Ka.out Kb.out);have hp1:wb.cell? ⟨w.heap.size,1,none⟩=some (.int .i64 p.time.n):=((aA Eb.out).1 _ 1 (by rw [HWS.out];omega)).trans (HC0.out 1);have hp2:wb.cell? ⟨w.heap.size,2,none⟩=some (.slice ta p.time.cells.length tc):=((aA Eb.out).1 _ 2 (by rw [HWS.out];omega)).trans (HC0.out 2);obtain ⟨ht0,ht1,ht2,ht3,ht4,ht5,ht6,ht7,ht8,ht9⟩:=Mn.c10 (fun j=>((aA Eb.out).1 _ j (by rw [HWS.out];omega)).trans (HC.out j));have nb0:¬ w.heap.size=wb.heap.size:=(by have:=Eb.out.size;have:=HWS.out;omega);have nb2:¬ w.heap.size+1+1=wb.heap.size:=(by have:=Eb.out.size;have:=HWS.out;omega);have HXb:Hid (wb.heap[wa.heap.size]? = some (.cells #[.int .i64 0,.slice none 0 0,.slice none 0 0,.slice none 0 0,.slice none 0 0] 135)):=(k9.block _ (by simp)).trans (heap_alloc_new wa _);have gc0:wb.cell? ⟨wa.heap.size,0,none⟩=some (.int .i64 0):=cell_of_row _ _ _ _ _ _ HXb.out;have gf0:wb.frozen? ⟨wa.heap.size,0,none⟩=false:=frozen_of_row _ _ _ _ _ HXb.out;have gc1:wb.cell? ⟨wa.heap.size,1,none⟩=some (.slice none 0 0):=cell_of_row _ _ _ _ _ _ HXb.out;have gf1:wb.frozen? ⟨wa.heap.size,1,none⟩=false:=frozen_of_row _ _ _ _ _ HXb.out;have gc2:wb.cell? ⟨wa.heap.size,2,none⟩=some (.slice none 0 0):=cell_of_row _ _ _ _ _ _ HXb.out;have gf2:wb.frozen? ⟨wa.heap.size,2,none⟩=false:=frozen_of_row _ _ _ _ _ HXb.out;have gc3:wb.cell? ⟨wa.heap.size,3,none⟩=some (.slice none 0 0):=cell_of_row _ _ _ _ _ _ HXb.out;have gf3:wb.frozen? ⟨wa.heap.size,3,none⟩=false:=frozen_of_row _ _ _ _ _ HXb.out;have gc4:wb.cell? ⟨wa.heap.size,4,none⟩=some (.slice none 0 0):=cell_of_row _ _ _ _ _ _ HXb.out;have gf4:wb.frozen? ⟨wa.heap.size,4,none⟩=false:=frozen_of_row _ _ _ _ _ HXb.out;clear k9)
       refine hK.out _ _ ?_ (fun hHeld6=>?_)
       · (try dsimp only);go_keep
       clear hK K;(try simp only [Act.put,Mn.q]);clear hHeld5;refine Mn.t 6 (oi:=⟨some 57,.field 86 (.tmp 56) 9,84,"plan.go:59",#[⟨5,.data⟩],none⟩) ?_;(try simp only [Act.put,Mn.q]);refine Mn.t 8 (oi:=⟨some 59,.build 135 #[(0,.tmp 52),(1,.tmp 54),(2,.tmp 57),(3,.tmp 58)],135,"plan.go:59",#[⟨1,.data⟩,⟨3,.data⟩,⟨6,.data⟩,⟨7,.data⟩],none⟩) ?_;(try simp only [Act.put,Mn.q]);refine wpAnyH_ready (rs:=[10]) (by kernel_rfl) (by simp) ?_;refine AllReadyH.cons (o:=⟨none,.store 135 (.tmp 12) (.tmp 59),0,"plan.go:59",#[⟨9,.data⟩,⟨8,.data⟩,⟨5,.chain⟩,⟨0,.phase⟩,⟨1,.phase⟩,⟨2,.phase⟩,⟨3,.phase⟩,⟨4,.phase⟩,⟨5,.phase⟩,⟨6,.phase⟩,⟨7,.phase⟩,⟨8,.phase⟩,⟨9,.phase⟩],none⟩) rfl (fun K hK=>?_) ?_
       ·go_simp
        refine hK.out _ _ ?_ (fun hHeld7=>?_)
        · (try dsimp only);(first | (go_keep;done) | (refine ⟨?_,?_,?_,?_,?_,?_,?_,?_,?_,?_,?_,?_⟩ <;> (refine bB (w:=wb) ?_ (by assumption);(repeat rw [heap_setCell_other _ _ _ _ (by simp;omega)]))))
        clear hK K;(try simp only [Act.put,Mn.q]);clear hHeld6;refine wpAnyH_done (by kernel_rfl) ?_ _;clear hHeld7;go_wp2_with fail;go_meet
        case rel =>
          obtain ⟨wz,hwz,hz1,hz2⟩:=put5 (.int .i64 p.time.n) (.slice ta p.time.cells.length tc) (.slice sA (m+2) sC) (.slice ba nb bc) (.slice (some ⟨w3.heap.size,0,none⟩) nb nb) HXb.out;have kz:Below wk.heap.size wk wz:=Kc.out.trans (bD hz2 (by have:=Ka.out.size;(try omega)) Kc.out.size);have hst:eT wz (.slice sA (m+2) sC) (aB p v1 V):=qE HSTb.out hz2 HXb.out;have hw9:_=wz:=hwz.symm;refine ⟨wa.heap.size,rfl,?_,?_,by have:=HC6.out.size;have:=Ka.out.size;(try omega)⟩
          ·refine ⟨sA,sC,?_⟩;rw [hw9];exact qG HBKS.out HMAT.out (below_on HBW.out EW.out) kz hst hz1 (by have:=LAB.out;have:=HC6.out.size;have:=Ka.out.size;exact ⟨by omega,by omega⟩) (HC6.out.block _ LAB.out |>.trans HAB6.out) (by simp)
          ·rw [hw9];exact below_on HC6.out kz
       exact AllReadyH.nil
      exact AllReadyH.nil
     exact AllReadyH.nil
    refine AllReadyH.cons (o:=⟨some 12,.alloc 135,0,"plan.go:59",#[],none⟩) rfl (fun K hK=>?_) ?_
    ·go_simp
     refine hK.out _ _ ?_ (fun hHeld8=>?_)
     · (try dsimp only);go_keep
     clear hK K;(try simp only [Act.put,Mn.q]);clear hHeld0;refine wpAnyH_ready (rs:=[3]) (by kernel_rfl) (by simp) ?_;refine AllReadyH.cons (o:=⟨some 54,.call { callee:=.value (.func 75),args:=#[.tmp 53],argTypes:=#[121] },132,"plan.go:59",#[⟨2,.data⟩],none⟩) rfl (fun K hK=>?_) ?_
     ·(refine aG (by rfl) 75 _ _ (by rfl) yfC [.agg #[.int .i64 p.dims,.int .i64 p.time.n,.slice ta p.time.cells.length tc,.int .i64 p.dist.n,.slice da p.dist.cells.length dc,.slice va' p.vs.length vc',.slice ja p.js.length jc,.slice sa p.ss.length sc,.int .i64 vi,.slice (some ⟨b,off,none⟩) m vc]] (by rfl) ?_;refine (H75.out _ (below_on HBW.out (below_on EW.out (below_on ((Below.refl _ _).drew) Mn.a)))).mono ?_;rintro e wa ⟨sA,sC,rfl,Q9,k9⟩;refine ⟨_,rfl,?_⟩;have HSTa:=hide Q9;have Ka:=hide (below_on (below_on ((Below.refl _ _).drew) Mn.a) k9);have Ea:=hide (below_on EW.out Ka.out);have gp1:wa.cell? ⟨w.heap.size,1,none⟩=some (.int .i64 p.time.n):=((aA Ea.out).1 _ 1 (by rw [HWS.out];omega)).trans (HC0.out 1);have gp2:wa.cell? ⟨w.heap.size,2,none⟩=some (.slice ta p.time.cells.length tc):=((aA Ea.out).1 _ 2 (by rw [HWS.out];omega)).trans (HC0.out 2);obtain ⟨gt0,gt1,gt2,gt3,gt4,gt5,gt6,gt7,gt8,gt9⟩:=Mn.c10 (fun j=>((aA Ea.out).1 _ j (by rw [HWS.out];omega)).trans (HC.out j));have na0:¬ w.heap.size=wa.heap.size:=(by have:=Ea.out.size;have:=HWS.out;omega);have na2:¬ w.heap.size+1+1=wa.heap.size:=(by have:=Ea.out.size;have:=HWS.out;omega);have HXa:Hid (wa.heap[wk.heap.size]? = some (.cells #[.int .i64 0,.slice none 0 0,.slice none 0 0,.slice none 0 0,.slice none 0 0] 135)):=(k9.block _ (by simp)).trans (heap_alloc_new wk.drew _);have na1:wk.heap.size<wa.heap.size:=(by have:=k9.size;simp at this;omega);clear k9 Q9)
      refine hK.out _ _ ?_ (fun hHeld9=>?_)
      · (try dsimp only);go_keep
      clear hK K;(try simp only [Act.put,Mn.q]);clear hHeld8;refine wpAnyH_ready (rs:=[5]) (by kernel_rfl) (by simp) ?_;refine AllReadyH.cons (o:=⟨some 56,.call { callee:=.value (.func 74),args:=#[.tmp 55],argTypes:=#[121] },86,"plan.go:59",#[⟨4,.data⟩,⟨3,.chain⟩],none⟩) rfl (fun K hK=>?_) ?_
      ·(refine aG (by rfl) 74 _ _ (by rfl) zR [.agg #[.int .i64 p.dims,.int .i64 p.time.n,.slice ta p.time.cells.length tc,.int .i64 p.dist.n,.slice da p.dist.cells.length dc,.slice va' p.vs.length vc',.slice ja p.js.length jc,.slice sa p.ss.length sc,.int .i64 vi,.slice (some ⟨b,off,none⟩) m vc]] (by rfl) ?_;refine (H74.out _ (below_on HBW.out (below_on Ea.out (Below.refl _ _)))).mono ?_;rintro e wb ⟨rfl,k9⟩;refine ⟨_,rfl,?_⟩;have Kb:=hide (below_on (Below.refl _ _) k9);have Eb:=hide (below_on Ea.out Kb.out);have HSTb:=hide (SlV.on HSTa.out Kb.out (by decide) fun _ _=>StpV.on Kb.out);have Kc:=hide (below_on Ka.out Kb.out);have hp1:wb.cell? ⟨w.heap.size,1,none⟩=some (.int .i64 p.time.n):=((aA Eb.out).1 _ 1 (by rw [HWS.out];omega)).trans (HC0.out 1);have hp2:wb.cell? ⟨w.heap.size,2,none⟩=some (.slice ta p.time.cells.length tc):=((aA Eb.out).1 _ 2 (by rw [HWS.out];omega)).trans (HC0.out 2);obtain ⟨ht0,ht1,ht2,ht3,ht4,ht5,ht6,ht7,ht8,ht9⟩:=Mn.c10 (fun j=>((aA Eb.out).1 _ j (by rw [HWS.out];omega)).trans (HC.out j));have nb0:¬ w.heap.size=wb.heap.size:=(by have:=Eb.out.size;have:=HWS.out;omega);have nb2:¬ w.heap.size+1+1=wb.heap.size:=(by have:=Eb.out.size;have:=HWS.out;omega);have HXb:Hid (wb.heap[wk.heap.size]? = some (.cells #[.int .i64 0,.slice none 0 0,.slice none 0 0,.slice none 0 0,.slice none 0 0] 135)):=(Kb.out.block _ na1).trans HXa.out;have gc0:wb.cell? ⟨wk.heap.size,0,none⟩=some (.int .i64 0):=cell_of_row _ _ _ _ _ _ HXb.out;have gf0:wb.frozen? ⟨wk.heap.size,0,none⟩=false:=frozen_of_row _ _ _ _ _ HXb.out;have gc1:wb.cell? ⟨wk.heap.size,1,none⟩=some (.slice none 0 0):=cell_of_row _ _ _ _ _ _ HXb.out;have gf1:wb.frozen? ⟨wk.heap.size,1,none⟩=false:=frozen_of_row _ _ _ _ _ HXb.out;have gc2:wb.cell? ⟨wk.heap.size,2,none⟩=some (.slice none 0 0):=cell_of_row _ _ _ _ _ _ HXb.out;have gf2:wb.frozen? ⟨wk.heap.size,2,none⟩=false:=frozen_of_row _ _ _ _ _ HXb.out;have gc3:wb.cell? ⟨wk.heap.size,3,none⟩=some (.slice none 0 0):=cell_of_row _ _ _ _ _ _ HXb.out;have gf3:wb.frozen? ⟨wk.heap.size,3,none⟩=false:=frozen_of_row _ _ _ _ _ HXb.out;have gc4:wb.cell? ⟨wk.heap.size,4,none⟩=some (.slice none 0 0):=cell_of_row _ _ _ _ _ _ HXb.out;have gf4:wb.frozen? ⟨wk.heap.size,4,none⟩=false:=frozen_of_row _ _ _ _ _ HXb.out;clear k9)
       refine hK.out _ _ ?_ (fun hHeld10=>?_)
       · (try dsimp only);go_keep
       clear hK K;(try simp only [Act.put,Mn.q]);clear hHeld9;refine Mn.t 6 (oi:=⟨some 57,.field 86 (.tmp 56) 9,84,"plan.go:59",#[⟨5,.data⟩],none⟩) ?_;(try simp only [Act.put,Mn.q]);refine Mn.t 8 (oi:=⟨some 59,.build 135 #[(0,.tmp 52),(1,.tmp 54),(2,.tmp 57),(3,.tmp 58)],135,"plan.go:59",#[⟨1,.data⟩,⟨3,.data⟩,⟨6,.data⟩,⟨7,.data⟩],none⟩) ?_;(try simp only [Act.put,Mn.q]);refine wpAnyH_ready (rs:=[10]) (by kernel_rfl) (by simp) ?_;refine AllReadyH.cons (o:=⟨none,.store 135 (.tmp 12) (.tmp 59),0,"plan.go:59",#[⟨9,.data⟩,⟨8,.data⟩,⟨5,.chain⟩,⟨0,.phase⟩,⟨1,.phase⟩,⟨2,.phase⟩,⟨3,.phase⟩,⟨4,.phase⟩,⟨5,.phase⟩,⟨6,.phase⟩,⟨7,.phase⟩,⟨8,.phase⟩,⟨9,.phase⟩],none⟩) rfl (fun K hK=>?_) ?_
       ·go_simp
        refine hK.out _ _ ?_ (fun hHeld11=>?_)
        · (try dsimp only);(first | (go_keep;done) | (refine ⟨?_,?_,?_,?_,?_,?_,?_,?_,?_,?_,?_,?_⟩ <;> (refine bB (w:=wb) ?_ (by assumption);(repeat rw [heap_setCell_other _ _ _ _ (by simp;omega)]))))
        clear hK K;(try simp only [Act.put,Mn.q]);clear hHeld10;refine wpAnyH_done (by kernel_rfl) ?_ _;clear hHeld11;go_wp2_with fail;go_meet
        case rel =>
          obtain ⟨wz,hwz,hz1,hz2⟩:=put5 (.int .i64 p.time.n) (.slice ta p.time.cells.length tc) (.slice sA (m+2) sC) (.slice ba nb bc) (.slice (some ⟨w3.heap.size,0,none⟩) nb nb) HXb.out;have kz:Below wk.heap.size wk wz:=Kc.out.trans (bD hz2 (by have:=Ka.out.size;(try omega)) Kc.out.size);have hst:eT wz (.slice sA (m+2) sC) (aB p v1 V):=qE HSTb.out hz2 HXb.out;have hw9:_=wz:=hwz.symm;refine ⟨wk.heap.size,rfl,?_,?_,by have:=HC6.out.size;have:=Ka.out.size;(try omega)⟩
          ·refine ⟨sA,sC,?_⟩;rw [hw9];exact qG HBKS.out HMAT.out (below_on HBW.out EW.out) kz hst hz1 (by have:=LAB.out;have:=HC6.out.size;have:=Ka.out.size;exact ⟨by omega,by omega⟩) (HC6.out.block _ LAB.out |>.trans HAB6.out) (by simp)
          ·rw [hw9];exact below_on HC6.out kz
       exact AllReadyH.nil
      exact AllReadyH.nil
     exact AllReadyH.nil
    exact AllReadyH.nil
  case rest =>
    obtain ⟨sb,rfl,HSRX,HC7,hsb⟩:=hcut;obtain ⟨sA,sC,hsr⟩:=HSRX.out;have HSR:=hide hsr;clear hsr HSRX;have EX:Hid (Below W.heap.size W wc):=below_on E6.out HC7.out
    have H76:Hid (∀ W2,Below wc.heap.size wc W2→Calls Try.prog 76 #[.pointer (some ⟨sb,0,none⟩),.int .i64 1,.int .i64 0,.int .i64 v1.shift.1] W2 (FrmQ W2 w3.heap.size (List.replicate nb 0) 0 (eE p v1 V))):=fun W2 hf=>by
      have h9:=yfH HL.out HVB.out (show V.length+2=m+2 by rw [HM.out]) (by omega) HNB1.out hnb2 _ W2 (List.replicate nb 0) 1 0 v1.shift.1 rfl (by omega) (by omega) (by omega) hsh.1 (by omega) (HSR.out.on hf);rw [ycU] at h9;exact h9
    clear fp0 fp1 fp2 fp3 fp4 fp5 fp6 fp7 ft0 ft1 ft2 ft3 ft4 ft5 ft6 ft7 ft8 ft9 i24 i24' in2 in2';obtain ⟨ft0,ft1,ft2,ft3,ft4,ft5,ft6,ft7,ft8,ft9⟩:=Mn.c10 (fun j=>((aA EX.out).1 _ j (by rw [HWS.out];omega)).trans (HC.out j));obtain ⟨r,hr⟩:∃ r,eE p v1 V=r:=⟨_,rfl⟩;have HSK:=hide hr;rw [hr] at HFE HFI;clear hr
    cases r with
    | none =>
      go_wp2_with (first | (go_at_call 76;refine (H76.out _ Kd.out).mono ?_;rintro e we hq;obtain ⟨rfl,ke⟩:=hq.1 HSK.out;have Ke:=hide (below_on (below_on EX.out Kd.out) ke);obtain ⟨kc0,kc1,kc2,kc3,kc4,kc5,kc6⟩:=Mn.c7 ((fK HX6.out Ke.out HX3.out).1);obtain ⟨kf0,kf1,kf2,kf3,kf4,kf5,kf6⟩:=Mn.z7 ((fK HX6.out Ke.out HX3.out).2);clear ke hq) | (go_at_call 74;refine (H74.out _ (below_on HBW.out EX.out)).mono ?_;rintro e wd ⟨rfl,k9⟩;have Kd:=hide k9;clear k9) | fail);refine bodyPost_ret (v:=.tuple #[.agg #[.int .i64 0,.slice none 0 0,.int .i64 0,.int .i64 0,.int .i64 0,.int .i64 0,.int .i64 0],.int .i64 167]) ?_ rfl ⟨_,by rw [HFE.out.1],by rw [HFE.out.2];exact dJ _ _,?_⟩
      · simp [results,Try.results40,go_sem, *]
      · have HBE:=below_on HBW.out Ke.out
        repeat (first | (with_reducible exact HBE) | (with_reducible refine Below.setCell ?_ (by simp) _) | (with_reducible refine Below.drew ?_))
    | some ps =>
      have hpl:=(HFI.out.yes ps rfl).1;rw [HNB1.out] at hpl;obtain ⟨V3,hV3⟩:∃ V3,fB V (ps.map fun n:Nat=>(n:Int))=V3:=⟨_,rfl⟩;have HV3:=hide hV3;have HV3L:Hid (V3.length=m+nb):=by show _=_;rw [← hV3,kN,HM.out,List.length_map,hpl]
      have HFE2:Hid (eD p vi V=ofE p vi V3∧dS p vi V=ofP p vi V3):=by have h9:=HFE.out;simp only [hV3] at h9;exact h9
      have H45b:Hid (∀ W2,Below w.heap.size w W2→IntsAt W2 (some ⟨w3.heap.size,0,none⟩) (ps.map fun n:Nat=>(n:Int))→Calls Try.prog 45 #[.slice (some ⟨b,off,none⟩) m vc,.slice (some ⟨w3.heap.size,0,none⟩) nb nb] W2 fun e w'=>∃ a c,e=.returned (.slice a (m+nb) c)∧(VsV w' (.slice a (m+nb) c) V3∧(a=none→c=0))∧Below W2.heap.size W2 w'):=fun W2 hf hx=>by
        have h9:=uO (n:=nb) (ac:=nb) (PrV.on HV.out hf) HM.out (by omega) hvc hx (by rw [List.length_map,hpl]) (by omega);rw [HV3.out] at h9;refine h9.mono ?_;rintro e w' ⟨v,rfl,hr,k9⟩;obtain ⟨a,c,rfl,hz⟩:=hr.shape;rw [HV3L.out] at hr ⊢;exact ⟨a,c,rfl,⟨hr.vs (by rw [HV3L.out];omega),hz⟩,k9⟩
      have H36b:Hid (∀ W2 a c,Below w.heap.size w W2→VsV W2 (.slice a (m+nb) c) V3∧(a=none→c=0)→Calls Try.prog 36 #[.agg #[.int .i64 p.dims,.int .i64 p.time.n,.slice ta p.time.cells.length tc,.int .i64 p.dist.n,.slice da p.dist.cells.length dc,.slice va' p.vs.length vc',.slice ja p.js.length jc,.slice sa p.ss.length sc],.int .i64 vi,.slice a (m+nb) c] W2 fun e w'=>∃ v,e=.returned (.tuple #[v,.int .i64 (ofE p vi V3)])∧PlanV w' W2.heap.size v (ofP p vi V3)∧Below W2.heap.size W2 w'):=fun W2 a c hf hv=>by have h9:=uT (vi:=vi) (HP.out.on hf) HL.out hv.1 HV3L.out (by omega) hv.2;exact h9
      obtain ⟨E1,hE1⟩:∃ E1,ofE p vi V3=E1:=⟨_,rfl⟩;obtain ⟨P1,hP1⟩:∃ P1,ofP p vi V3=P1:=⟨_,rfl⟩;rw [hE1,hP1] at HFE2;simp only [hE1,hP1] at H36b;clear hE1 hP1 hV3 hpl HFE HFI H36 H45;go_wp2_with (first | (go_at_call 76;refine (H76.out _ Kd.out).mono ?_;rintro e we hq;obtain ⟨rfl,ke,hbe⟩:=hq.2 _ HSK.out;have GE:=hide ke;have HBE:=hide hbe;clear ke hq hbe) | (go_at_call 74;refine (H74.out _ (below_on HBW.out EX.out)).mono ?_;rintro e wd ⟨rfl,k9⟩;have Kd:=hide k9;clear k9) | fail);have HBA:Hid (IntsAt we (some ⟨w3.heap.size,0,none⟩) (ps.map fun n:Nat=>(n:Int))):=ye5 (by have h9:=HBE.out;rw [List.take_zero,List.nil_append] at h9;exact h9);have LW3:Hid (W.heap.size≤w3.heap.size):=E3.out.size;have BWD:Hid (Below W.heap.size W wd):=below_on EX.out Kd.out;have BWE:Hid (Below W.heap.size W we):=BWD.out.trans (bD GE.out LW3.out BWD.out.size);have BE:Hid (Below w.heap.size w we):=below_on HBW.out BWE.out;clear ft0 ft1 ft2 ft3 ft4 ft5 ft6 ft7 ft8 ft9 hfd4 hf61 hfd9;obtain ⟨kp0,kp1,kp2,kp3,kp4,kp5,kp6,kp7⟩:=Mn.c8 (fun j=>((aA BWE.out).1 _ j (by rw [HWS.out];omega)).trans (HC0.out j));have le0:w.heap.size+1+1<we.heap.size:=by have:=BWE.out.size;have:=HWS.out;omega
      first | (go_region_held3 (fun w'=>w'.cell? ⟨w.heap.size,0,none⟩=some (.int .i64 p.dims)∧w'.cell? ⟨w.heap.size,1,none⟩=some (.int .i64 p.time.n)∧w'.cell? ⟨w.heap.size,2,none⟩=some (.slice ta p.time.cells.length tc)∧w'.cell? ⟨w.heap.size,3,none⟩=some (.int .i64 p.dist.n)∧w'.cell? ⟨w.heap.size,4,none⟩=some (.slice da p.dist.cells.length dc)∧w'.cell? ⟨w.heap.size,5,none⟩=some (.slice va' p.vs.length vc')∧w'.cell? ⟨w.heap.size,6,none⟩=some (.slice ja p.js.length jc)∧w'.cell? ⟨w.heap.size,7,none⟩=some (.slice sa p.ss.length sc)) (go_keep) (first | (go_at_call 45;refine (H45b.out _ (below_on BE.out ((Below.refl _ _).drew)) (HBA.out.later ((Below.refl _ _).drew))).mono ?_;rintro e wf ⟨a7,c7,rfl,hv7,k9⟩;have HV7:=hide hv7;have Kf:=hide (below_on ((Below.refl _ _).drew) k9);have Ef:=hide (below_on BWE.out Kf.out);obtain ⟨mp0,mp1,mp2,mp3,mp4,mp5,mp6,mp7⟩:=Mn.c8 (fun j=>((aA Ef.out).1 _ j (by rw [HWS.out];omega)).trans (HC0.out j));clear k9 hv7) | (go_at_call 36;refine (H36b.out _ _ _ (below_on HBW.out Ef.out) HV7.out).mono ?_;rintro e wg ⟨v8,rfl,hp8,k9⟩;have HPL:=hide (PlanV.mono hp8 (Nat.le_trans (Nat.le_of_lt le0) Kf.out.size));have Eg:=hide (below_on Ef.out k9);obtain ⟨pa,pn,pc,ys,rfl,_,_,_⟩:=hp8;unfold bV at HPL ⊢;obtain ⟨np0,np1,np2,np3,np4,np5,np6,np7⟩:=Mn.c8 (fun j=>((aA Eg.out).1 _ j (by rw [HWS.out];omega)).trans (HC0.out j));obtain ⟨nc0,nc1,nc2,nc3,nc4,nc5,nc6⟩:=Mn.c7 ((fK HX6.out Eg.out HX3.out).1);obtain ⟨nf0,nf1,nf2,nf3,nf4,nf5,nf6⟩:=Mn.z7 ((fK HX6.out Eg.out HX3.out).2);clear k9) | fail)) | fail
      rename_i hHeld;clear hHeld;go_wp2_with fail;refine bodyPost_ret (v:=.tuple #[.agg #[.int .i64 P1.veh,.slice pa pn pc,.int .i64 P1.time,.int .i64 P1.dist,.int .i64 P1.wait,.int .i64 P1.serv,.int .i64 P1.cost],.int .i64 E1]) ?_ rfl ⟨_,by rw [HFE2.out.1],?_,?_⟩
      · simp [results,Try.results40,go_sem, *]
      · rw [HFE2.out.2];refine PlanV.mono (HPL.out.set (r:=w.heap.size+1) ?_ (by (try simp);(try omega))) (by (try simp);(try omega))
        repeat (first | (with_reducible exact cD _ _) | (with_reducible refine aZ ?_ _ _))
      · have HBE:=below_on HBW.out Eg.out
        repeat (first | (with_reducible exact HBE) | (with_reducible refine Below.setCell ?_ (by simp) _) | (with_reducible refine Below.drew ?_))
theorem ya6 {w:World} {x:aU} {p:Prb} {vi:Int} {b off m vc:Nat} {V:List Vst} (h:PrbV w x p) (hl:aY p=true) (hV:VsV w (.slice (some ⟨b,off,none⟩) m vc) V) (hm:V.length=m) (hm2:m≤90) (hvc:m≤vc):Calls Try.prog 40 #[.agg (aL p x),.int .i64 vi,.slice (some ⟨b,off,none⟩) m vc] w fun e w'=>∃ v,e=.returned (.tuple #[v,.int .i64 (eD p vi V)])∧PlanV w' w.heap.size v (dS p vi V)∧Below w.heap.size w w':=by
 by_cases hh:eO p vi=true∧gX V=false∧ofE p vi (dO p vi V)=167
 ·exact yfN h hl hV hm hm2 hvc hh.1 hh.2.1 hh.2.2
 ·have h9:=xR h hl hV hm hm2 hvc (vi:=vi) fun h1 h2 h3=>hh ⟨h1,h2,h3⟩
  have e1:mD p vi V=eD p vi V∧kB p vi V=dS p vi V:=by
    unfold mD kB eD dS
    cases h1:eO p vi with
    | false=>exact ⟨rfl,rfl⟩
    | true =>
      cases h2:gX V with
      | true=>exact ⟨rfl,rfl⟩
      | false =>
        rw [decide_eq_false fun h3=>hh ⟨h1,h2,h3⟩];exact ⟨rfl,rfl⟩
  rw [e1.1,e1.2] at h9;exact h9
end Go.Proofs.Ytgjpkpmikbpcnaa
namespace Go.Proofs.Ytgjpkpmikbpcnaa
open Go.RowKit
def gB (V:List Vst) (n i k:Nat):List Vst:=fB V ((([i,k]:List Nat).take n).map fun z:Nat=>(z:Int))
theorem mR {m i k n:Nat} (hik:i≤k) (hk:k≤m) (hn:n=1∨n=2):Vld m 0 (([i,k]:List Nat).take n)∧(([i,k]:List Nat).take n).length=n:=by
 rcases hn with rfl | rfl
 ·exact ⟨⟨Nat.zero_le _,by omega,trivial⟩,rfl⟩
 ·exact ⟨⟨Nat.zero_le _,by omega,hik,hk,trivial⟩,rfl⟩
theorem uK {V:List Vst} {n i k:Nat} (hik:i≤k) (hk:k≤V.length) (hn:n=1∨n=2):gB V n i k=cJ 0 0 (([i,k]:List Nat).take n) V:=by
 unfold gB;exact mX (mR hik hk hn).1
theorem try_one (V:List Vst) (i k k':Nat):gB V 1 i k=gB V 1 i k':=rfl
theorem xL {p:Prb} {vi:Int} {V:List Vst} {n:Nat} (h:(p.vs.getD vi.toNat vz).brks.length=n) (hn:n=1∨n=2):dO p vi V=gB V n 0 0:=by
 unfold dO gB;rw [h]
 rcases hn with rfl | rfl <;> rfl
theorem iP {p:Prb} {vi:Int} (h:eO p vi=true) (V:List Vst):ofE p vi V=dI p (p.vs.getD vi.toNat vz) V:=by
 unfold ofE;rw [p9];unfold eO at h;rw [h]
 rfl
section
variable {p:Prb} {vi:Int} {V:List Vst} {n:Nat}
theorem tX (hl:aY p=true) (hm:eO p vi=true) (hb:gX V=false) (hn:(p.vs.getD vi.toNat vz).brks.length=n) (h2:n=1∨n=2) (he:ofE p vi (gB V n 0 0)=167):yI p (p.vs.getD vi.toNat vz) V (eE p (p.vs.getD vi.toNat vz) V):=by
 obtain ⟨k,hk,hkl⟩:=fU (show (decide (0≤vi) && decide (vi<(p.vs.length:Int)))=true from hm);have hvo:iS p.dims p.time.n (p.vs.getD vi.toNat vz):=fL (eC hl (by rw [hk];simpa using hkl));have hV:=nD hb;rw [iP hm,uK (Nat.le_refl _) (Nat.zero_le _) h2] at he;exact kV hl hvo hV (by rw [(mR (Nat.le_refl 0) (Nat.zero_le V.length) h2).2,hn]) he
theorem ycZ {i k:Nat} (hl:aY p=true) (hm:eO p vi=true) (hb:gX V=false) (hn:(p.vs.getD vi.toNat vz).brks.length=n) (h2:n=1∨n=2) (hik:i≤k) (hk:k≤V.length) (h0:∀ a b,a<i→a≤b→b≤V.length→ofE p vi (gB V n a b)=167) (h1:∀ b,i≤b→b<k→ofE p vi (gB V n i b)=167) (he:ofE p vi (gB V n i k)≠167):eD p vi V=ofE p vi (gB V n i k)∧dS p vi V=ofP p vi (gB V n i k):=by
 have hH:=xL (V:=V) hn h2
 by_cases hz:ofE p vi (gB V n 0 0)=167
 ·have hF:=tX hl hm hb hn h2 hz
  have hEP:eD p vi V=(match eE p (p.vs.getD vi.toNat vz) V with | none=>167 | some ps=>ofE p vi (fB V (ps.map fun n:Nat=>(n:Int))))∧dS p vi V=(match eE p (p.vs.getD vi.toNat vz) V with | none=>planZ | some ps=>ofP p vi (fB V (ps.map fun n:Nat=>(n:Int)))):=by
   unfold eD dS;rw [hm,hb,hH,hz];exact ⟨rfl,rfl⟩
  have hlen:∀ ps:List Nat,ps.length=n→Vld V.length 0 ps→∃ a b,ps=([a,b]:List Nat).take n∧a≤b∧b≤V.length:=fun ps hps hv=>by
   rcases h2 with rfl | rfl
   ·obtain ⟨a,rfl⟩:∃ a,ps=[a]:=by
     rcases ps with _ | ⟨a,_ | ⟨c,r⟩⟩
     ·simp at hps
     ·exact ⟨a,rfl⟩
     ·simp at hps
    exact ⟨a,a,rfl,Nat.le_refl _,hv.2.1⟩
   ·obtain ⟨a,b,rfl⟩:∃ a b,ps=[a,b]:=by
     rcases ps with _ | ⟨a,_ | ⟨c,_ | ⟨d,r⟩⟩⟩
     ·simp at hps
     ·simp at hps
     ·exact ⟨a,c,rfl⟩
     ·simp at hps
    exact ⟨a,b,rfl,hv.2.2.1,hv.2.2.2.1⟩
  have herr:∀ a b,a≤b→b≤V.length→ofE p vi (gB V n a b)=dI p (p.vs.getD vi.toNat vz) (cJ 0 0 (([a,b]:List Nat).take n) V):=fun a b hab hbl=>by rw [iP hm,uK hab hbl h2]
  cases hs:eE p (p.vs.getD vi.toNat vz) V with
  | none =>
   exfalso
   rw [hs] at hF;have hv:=mR hik hk h2;refine he ?_;rw [herr i k hik hk];exact hF.no rfl _ (by rw [hv.2,hn]) hv.1
  | some ps =>
   rw [hs] at hF hEP;obtain ⟨y1,y2,y3,y4⟩:=hF.yes ps rfl;obtain ⟨a,b,rfl,hab,hbl⟩:=hlen ps (by rw [y1,hn]) y2;have hv:=mR hik hk h2;have e0:ofE p vi (gB V n a b)=0:=by rw [herr a b hab hbl];exact y3
   have hnl:¬ uY (([i,k]:List Nat).take n) (([a,b]:List Nat).take n):=fun hx=>he (by rw [herr i k hik hk];exact y4 _ (by rw [hv.2,hn]) hv.1 hx);have hia:¬ a<i:=fun h=>by rw [h0 a b h hab hbl] at e0;cases e0
   have heq:(([a,b]:List Nat).take n)=(([i,k]:List Nat).take n):=by
    rcases h2 with rfl | rfl
    ·have hx:¬ uY [i] [a]:=hnl;simp only [uY] at hx;have:i=a:=by omega
     rw [this];rfl
    ·have hx:¬ uY [i,k] [a,b]:=hnl;simp only [uY] at hx;have e1:i=a:=by omega
     subst e1;have hkb:¬ b<k:=fun h=>by rw [h1 b hab h] at e0;cases e0
     have e2:k=b:=by omega
     rw [e2]
   rw [hEP.1,hEP.2];show ofE p vi (fB V (List.map _ _))=_∧ofP p vi (fB V (List.map _ _))=_;unfold gB;rw [heq];exact ⟨rfl,rfl⟩
 ·have hi:i=0:=by
   by_cases h:i=0
   ·exact h
   ·exact absurd (h0 0 0 (by omega) (Nat.le_refl _) (Nat.zero_le _)) hz
  subst hi
  have hk0:k=0:=by
   by_cases h:k=0
   ·exact h
   ·exact absurd (h1 0 (Nat.le_refl _) (by omega)) hz
  subst hk0;unfold eD dS;rw [hm,hb,hH,decide_eq_false hz];exact ⟨rfl,rfl⟩
theorem ycY (hl:aY p=true) (hm:eO p vi=true) (hb:gX V=false) (hn:(p.vs.getD vi.toNat vz).brks.length=n) (h2:n=1∨n=2) (h0:∀ a b,a≤b→b≤V.length→ofE p vi (gB V n a b)=167):eD p vi V=167∧dS p vi V=planZ:=by
 have hz:=h0 0 0 (Nat.le_refl _) (Nat.zero_le _);have hF:=tX hl hm hb hn h2 hz;have hH:=xL (V:=V) hn h2
 have hs:eE p (p.vs.getD vi.toNat vz) V=none:=by
  cases hs:eE p (p.vs.getD vi.toNat vz) V with
  | none=>rfl
  | some ps =>
   exfalso
   rw [hs] at hF;obtain ⟨y1,y2,y3,y4⟩:=hF.yes ps rfl;rw [hn] at y1
   have key:∃ a b,ps=([a,b]:List Nat).take n∧a≤b∧b≤V.length:=by
    rcases h2 with rfl | rfl
    ·rcases ps with _ | ⟨a,_ | ⟨c,r⟩⟩
     ·simp at y1
     ·exact ⟨a,a,rfl,Nat.le_refl _,y2.2.1⟩
     ·simp at y1
    ·rcases ps with _ | ⟨a,_ | ⟨c,_ | ⟨d,r⟩⟩⟩
     ·simp at y1
     ·simp at y1
     ·exact ⟨a,c,rfl,y2.2.2.1,y2.2.2.2.1⟩
     ·simp at y1
   obtain ⟨a,b,rfl,hab,hbl⟩:=key;have:=h0 a b hab hbl;rw [iP hm,uK hab hbl h2,y3] at this
   cases this
 unfold eD dS;rw [hm,hb,hH,hz,hs];exact ⟨rfl,rfl⟩
theorem yfM (hm:eO p vi=true) (hb:gX V=false) (hl:aY p=true) (hn:(p.vs.getD vi.toNat vz).brks.length=0):eD p vi V=ofE p vi V∧dS p vi V=ofP p vi V:=by
 have hH:dO p vi V=V:=by
  unfold dO;rw [hn];exact mX (V:=V) (ps:=[]) trivial
 by_cases hz:ofE p vi V=167
 ·obtain ⟨k,hk,hkl⟩:=fU (show (decide (0≤vi) && decide (vi<(p.vs.length:Int)))=true from hm);have hvo:iS p.dims p.time.n (p.vs.getD vi.toNat vz):=fL (eC hl (by rw [hk];simpa using hkl));have hF:yI p (p.vs.getD vi.toNat vz) V (eE p (p.vs.getD vi.toNat vz) V):=kV (ps0:=[]) hl hvo (nD hb) (by rw [hn];rfl) (by rw [← iP hm];exact hz)
  have hs:eE p (p.vs.getD vi.toNat vz) V=none:=by
   cases hs:eE p (p.vs.getD vi.toNat vz) V with
   | none=>rfl
   | some ps =>
    exfalso
    rw [hs] at hF;obtain ⟨y1,y2,y3,y4⟩:=hF.yes ps rfl;rw [hn] at y1;have:ps=[]:=List.eq_nil_of_length_eq_zero y1;subst this;rw [iP hm] at hz;rw [show cJ 0 0 [] V=V from rfl,hz] at y3
    cases y3
  unfold eD dS;rw [hm,hb,hH,hz,hs];exact ⟨rfl,(eX (by rw [hz];decide)).symm⟩
 ·unfold eD dS;rw [hm,hb,hH,decide_eq_false hz];exact ⟨rfl,rfl⟩
end
end Go.Proofs.Ytgjpkpmikbpcnaa
namespace Go.Proofs.Ytgjpkpmikbpcnaa
open Go.RowKit
theorem m4b (p:Prb) (dd:Nat) (V:List Vst) (k:Nat):(bY p dd V k).length=dd:=by simp [bY]
theorem qP {p:Prb} {vi:Int} {V:List Vst} (hl:aY p=true) (hm:V.length≤900):(ofP p vi V).steps.length≤1000∧∀ s ∈ (ofP p vi V).steps,s.load.length≤3:=by
 by_cases he:ofE p vi V=0
 ·rw [qU he];obtain ⟨dd,hdd⟩:∃ dd:Nat,p.dims=dd:=⟨p.dims.toNat,by have:=(bF hl).dim;omega⟩;have hd3:dd≤3:=by have:=(bF hl).dim;omega
  have hdt:p.dims.toNat=dd:=by rw [hdd];simp
  refine ⟨?_,fun s hs=>?_⟩
  ·show ((List.range (aB p _ V).length).map _).length≤_;rw [List.length_map,List.length_range,aO]
   omega
  ·have hs:s ∈ (List.range (aB p (p.vs.getD vi.toNat vz) V).length).map (bG p p.dims.toNat (p.vs.getD vi.toNat vz).shift.1 V (aB p (p.vs.getD vi.toNat vz) V)):=hs;obtain ⟨i,hi,rfl⟩:=List.mem_map.1 hs;rw [List.mem_range,aO] at hi;show ((dG p p.dims.toNat V).getD i []).length≤3;rw [hdt]
   by_cases h9:i≤V.length
   ·rw [oI hl hdd V i h9,m4b];exact hd3
   ·have:i=V.length+1:=by omega
    rw [this,qZ hl hdd V,m4b];exact hd3
 ·rw [eX he];exact ⟨by decide,fun s hs=>by simp [planZ] at hs⟩
theorem vH {p:Prb} {vi:Int} {V:List Vst} (h:eO p vi=false):eD p vi V=160∧dS p vi V=planZ:=by unfold eD dS;rw [h];exact ⟨rfl,rfl⟩
theorem ya5 {p:Prb} {vi:Int} {V:List Vst} (h:eO p vi=true) (hb:gX V=true):eD p vi V=162∧dS p vi V=planZ:=by unfold eD dS;rw [h,hb];exact ⟨rfl,rfl⟩
theorem tV {p:Prb} {vi:Int} {V:List Vst} (hl:aY p=true) (hm:V.length≤800):(dS p vi V).steps.length≤1000∧∀ s ∈ (dS p vi V).steps,s.load.length≤3:=by
 have hz:planZ.steps.length≤1000∧∀ s ∈ planZ.steps,s.load.length≤3:=⟨by decide,fun s hs=>by simp [planZ] at hs⟩
 cases ho:eO p vi with
 | false=>rw [(vH ho).2];exact hz
 | true =>
 cases hb:gX V with
 | true=>rw [(ya5 ho hb).2];exact hz
 | false =>
 have hlen:∀ A:List Int,A.length≤2→(fB V A).length≤900:=fun A hA=>by rw [kN];omega
 obtain ⟨k,hk,hkl⟩:=fU (show (decide (0≤vi) && decide (vi<(p.vs.length:Int)))=true from ho);have hvo:iS p.dims p.time.n (p.vs.getD vi.toNat vz):=fL (eC hl (by rw [hk];simpa using hkl));have h2:=hvo.two;unfold dS;rw [ho,hb]
 cases hd:decide (ofE p vi (dO p vi V)=167) with
 | false=>exact qP hl (hlen _ (by rw [List.length_replicate];exact h2))
 | true =>
  show (match eE p (p.vs.getD vi.toNat vz) V with | none=>planZ | some ps=>ofP p vi (fB V (ps.map fun n:Nat=>(n:Int)))).steps.length≤1000∧∀ s ∈ (match eE p (p.vs.getD vi.toNat vz) V with | none=>planZ | some ps=>ofP p vi (fB V (ps.map fun n:Nat=>(n:Int)))).steps,s.load.length≤3
  have hF:yI p (p.vs.getD vi.toNat vz) V (eE p (p.vs.getD vi.toNat vz) V):=kV (ps0:=List.replicate (p.vs.getD vi.toNat vz).brks.length 0) hl hvo (nD hb) (by simp) (by
   have h9:=of_decide_eq_true hd;rw [iP ho,rD rfl] at h9;exact h9)
  cases hs:eE p (p.vs.getD vi.toNat vz) V with
  | none=>exact hz
  | some ps =>
   rw [hs] at hF;exact qP hl (hlen _ (by rw [List.length_map,(hF.yes ps rfl).1];exact h2))
end Go.Proofs.Ytgjpkpmikbpcnaa
