/-
  What the call of Fit of plan does, where the breaks at the first places are not too late.
-/
import Derived.Deep.RegionHeld3
import Derived.Test.YtgjpkpmikbpcnaaXOfW
import Derived.Test.YtgjpkpmikbpcnaaXSetW
import Derived.Test.YtgjpkpmikbpcnaaXPtsG
import Derived.Test.YtgjpkpmikbpcnaaXCelG
import Derived.Test.YtgjpkpmikbpcnaaXLdsG
import Derived.Test.YtgjpkpmikbpcnaaXMin
namespace Go.Proofs.Ytgjpkpmikbpcnaa
open Go.RowKit
def manB (p : Prb) (vi : Int) : Bool := decide (0 ≤ vi) && decide (vi < (p.vs.length : Int))
def hasB (V : List Vst) : Bool := V.any fun v => v.1 == 4
def headV (p : Prb) (vi : Int) (V : List Vst) : List Vst := setM V (List.replicate (p.vs.getD vi.toNat vz).brks.length 0)
def easyE (p : Prb) (vi : Int) (V : List Vst) : Int := bif !manB p vi then 160 else bif hasB V then 162 else ofE p vi (headV p vi V)
def easyP (p : Prb) (vi : Int) (V : List Vst) : PlanT := bif !manB p vi then planZ else bif hasB V then planZ else ofP p vi (headV p vi V)
theorem frz7 {w w' : World} {b : Nat} (h : w.heap[b]? = some (.cells #[.int .i64 0,.slice none 0 0,.int .i64 0,.int .i64 0,.int .i64 0,.int .i64 0,.int .i64 0] 71)) (f : Below w.heap.size w w') (hb : b < w.heap.size) : (∀ j,w'.cell? ⟨b,j,none⟩ = (#[.int .i64 0,.slice none 0 0,.int .i64 0,.int .i64 0,.int .i64 0,.int .i64 0,.int .i64 0] : Array Value)[j]?) ∧ ∀ j,w'.frozen? ⟨b,j,none⟩ = false :=
 have e := (f.block b hb).trans h
 ⟨fun _ => cell_of_row _ _ _ _ _ _ e,fun _ => frz_row e⟩
theorem put7 {W : World} {b : Nat} {c0 c1 c2 c3 c4 c5 c6 : Value} (v0 v1 v2 v3 v4 v5 v6 : Value) (h : W.heap[b]? = some (.cells #[c0,c1,c2,c3,c4,c5,c6] 71 (0,0))) :
  ∃ Z,Z = (((((((W.setCell ⟨b,0,none⟩ v0).setCell ⟨b,1,none⟩ v1).setCell ⟨b,2,none⟩ v2).setCell ⟨b,3,none⟩ v3).setCell ⟨b,4,none⟩ v4).setCell ⟨b,5,none⟩ v5).setCell ⟨b,6,none⟩ v6) ∧ Z.heap[b]? = some (.cells #[v0,v1,v2,v3,v4,v5,v6] 71 (0,0)) ∧ W.grownBy Z (some b) := by
 refine ⟨_,rfl,?_,?_⟩
 ·have h0 : (W.setCell ⟨b,0,none⟩ v0).heap[b]? = some (.cells #[v0,c1,c2,c3,c4,c5,c6] 71 (0,0)) := by have := heap_setCell_same W b 0 _ _ v0 h;simpa using this
  have h1 : ((W.setCell ⟨b,0,none⟩ v0).setCell ⟨b,1,none⟩ v1).heap[b]? = some (.cells #[v0,v1,c2,c3,c4,c5,c6] 71 (0,0)) := by have := heap_setCell_same _ b 1 _ _ v1 h0;simpa using this
  have h2 : (((W.setCell ⟨b,0,none⟩ v0).setCell ⟨b,1,none⟩ v1).setCell ⟨b,2,none⟩ v2).heap[b]? = some (.cells #[v0,v1,v2,c3,c4,c5,c6] 71 (0,0)) := by have := heap_setCell_same _ b 2 _ _ v2 h1;simpa using this
  have h3 : ((((W.setCell ⟨b,0,none⟩ v0).setCell ⟨b,1,none⟩ v1).setCell ⟨b,2,none⟩ v2).setCell ⟨b,3,none⟩ v3).heap[b]? = some (.cells #[v0,v1,v2,v3,c4,c5,c6] 71 (0,0)) := by have := heap_setCell_same _ b 3 _ _ v3 h2;simpa using this
  have h4 : (((((W.setCell ⟨b,0,none⟩ v0).setCell ⟨b,1,none⟩ v1).setCell ⟨b,2,none⟩ v2).setCell ⟨b,3,none⟩ v3).setCell ⟨b,4,none⟩ v4).heap[b]? = some (.cells #[v0,v1,v2,v3,v4,c5,c6] 71 (0,0)) := by have := heap_setCell_same _ b 4 _ _ v4 h3;simpa using this
  have h5 : ((((((W.setCell ⟨b,0,none⟩ v0).setCell ⟨b,1,none⟩ v1).setCell ⟨b,2,none⟩ v2).setCell ⟨b,3,none⟩ v3).setCell ⟨b,4,none⟩ v4).setCell ⟨b,5,none⟩ v5).heap[b]? = some (.cells #[v0,v1,v2,v3,v4,v5,c6] 71 (0,0)) := by have := heap_setCell_same _ b 5 _ _ v5 h4;simpa using this
  have h6 : (((((((W.setCell ⟨b,0,none⟩ v0).setCell ⟨b,1,none⟩ v1).setCell ⟨b,2,none⟩ v2).setCell ⟨b,3,none⟩ v3).setCell ⟨b,4,none⟩ v4).setCell ⟨b,5,none⟩ v5).setCell ⟨b,6,none⟩ v6).heap[b]? = some (.cells #[v0,v1,v2,v3,v4,v5,v6] 71 (0,0)) := by have := heap_setCell_same _ b 6 _ _ v6 h5;simpa using this
  exact h6
 ·repeat (first | (with_reducible exact grw_refl _ _) | (with_reducible refine grw_set ?_ _ _))
theorem grw_block {w w' : World} {r q : Nat} (h : w.grownBy w' (some r)) (hq : q < w.heap.size) (hr : q ≠ r) : w'.heap[q]? = w.heap[q]? := h.block q hq fun e => hr (by injection e)
theorem frz7' {w w' : World} {b : Nat} {A : Array Value} (h : w.heap[b]? = some (.cells A 71)) (e : w'.heap[b]? = w.heap[b]?) : (∀ j,w'.cell? ⟨b,j,none⟩ = A[j]?) ∧ ∀ j,w'.frozen? ⟨b,j,none⟩ = false := ⟨fun _ => cell_of_row _ _ _ _ _ _ (e.trans h),fun _ => frz_row (e.trans h)⟩
theorem hent45 (args : Array Value) (w : World) : (callFunc 45 args).run Try.prog w = .ok (.enter 45 args) w := Go.Proofs.enters_of Try.func45 (by kernel_rfl) rfl args w
theorem hent36 (args : Array Value) (w : World) : (callFunc 36 args).run Try.prog w = .ok (.enter 36 args) w := Go.Proofs.enters_of Try.func36 (by kernel_rfl) rfl args w
set_option maxRecDepth 100000 in
set_option maxHeartbeats 6400000 in
theorem fit_easy {w : World} {x : PrbS} {p : Prb} {vi : Int} {b off m vc : Nat} {V : List Vst} (h : PrbV w x p) (hl : lawM p = true) (hV : VsV w (.slice (some ⟨b,off,none⟩) m vc) V) (hm : V.length = m) (hm2 : m ≤ 90) (hvc : m ≤ vc) (hne : manB p vi = true → hasB V = false → ofE p vi (headV p vi V) ≠ 167) :
  Calls Try.prog 40 #[.agg (prbE p x),.int .i64 vi,.slice (some ⟨b,off,none⟩) m vc] w fun e w' => ∃ v,e = .returned (.tuple #[v,.int .i64 (easyE p vi V)]) ∧ PlanV w' w.heap.size v (easyP p vi V) ∧ Below w.heap.size w w' := by
 have HL := hide hl
 have HP := hide h
 have HV := hide hV
 have HM := hide hm
 have HNE := hide hne
 obtain ⟨ta,tc,da,dc,va',vc',ja,jc,sa,sc,rfl⟩ := h.open
 clear h hV hm hl hne
 have HPE : Hid (prbE p ⟨.slice ta p.time.cells.length tc,.slice da p.dist.cells.length dc,.slice va' p.vs.length vc',.slice ja p.js.length jc,.slice sa p.ss.length sc⟩ = #[.int .i64 p.dims,.int .i64 p.time.n,.slice ta p.time.cells.length tc,.int .i64 p.dist.n,.slice da p.dist.cells.length dc,.slice va' p.vs.length vc',.slice ja p.js.length jc,.slice sa p.ss.length sc]) := rfl
 have H71 : Hid (∀ W2,Below w.heap.size w W2 → Calls Try.prog 71 #[.agg #[.int .i64 p.dims,.int .i64 p.time.n,.slice ta p.time.cells.length tc,.int .i64 p.dist.n,.slice da p.dist.cells.length dc,.slice va' p.vs.length vc',.slice ja p.js.length jc,.slice sa p.ss.length sc,.int .i64 vi,.slice (some ⟨b,off,none⟩) m vc]] W2 fun e w' => e = .returned (.bool (manB p vi)) ∧ Below W2.heap.size W2 w') := fun W2 hf => by have h9 := manned_any (m := m) (vc := vc) (va := some ⟨b,off,none⟩) (HP.out.on hf) vi;exact h9
 have H72 : Hid (∀ W2,Below w.heap.size w W2 → Calls Try.prog 72 #[.slice (some ⟨b,off,none⟩) m vc,.func (.func 73) #[] #[]] W2 fun e w' => e = .returned (.bool (hasB V)) ∧ Below W2.heap.size W2 w') := fun W2 hf => by have h9 := hasBreak_any (c := vc) (PrV.on HV.out hf) HM.out (by omega);exact h9
 rw [HPE.out]
 obtain ⟨W,hW⟩ : ∃ W,W = ((w.alloc (.cells #[.int .i64 p.dims,.int .i64 p.time.n,.slice ta p.time.cells.length tc,.int .i64 p.dist.n,.slice da p.dist.cells.length dc,.slice va' p.vs.length vc',.slice ja p.js.length jc,.slice sa p.ss.length sc] 29)).alloc (.cells #[.int .i64 0,.slice none 0 0,.int .i64 0,.int .i64 0,.int .i64 0,.int .i64 0,.int .i64 0] 71)).alloc (.cells #[.int .i64 p.dims,.int .i64 p.time.n,.slice ta p.time.cells.length tc,.int .i64 p.dist.n,.slice da p.dist.cells.length dc,.slice va' p.vs.length vc',.slice ja p.js.length jc,.slice sa p.ss.length sc,.int .i64 vi,.slice (some ⟨b,off,none⟩) m vc] 121) := ⟨_,rfl⟩
 have HBW : Hid (Below w.heap.size w W) := by rw [hW];exact (((Below.refl _ _).alloc (Nat.le_refl _) _).alloc (by simp) _).alloc (by simp;omega) _
 have HWS : Hid (W.heap.size = w.heap.size + 3) := by show _ = _;rw [hW];simp
 have HC : Hid (∀ j,W.cell? ⟨w.heap.size + 1 + 1,j,none⟩ = (#[.int .i64 p.dims,.int .i64 p.time.n,.slice ta p.time.cells.length tc,.int .i64 p.dist.n,.slice da p.dist.cells.length dc,.slice va' p.vs.length vc',.slice ja p.js.length jc,.slice sa p.ss.length sc,.int .i64 vi,.slice (some ⟨b,off,none⟩) m vc] : Array Value)[j]?) := fun j => by
  rw [hW]
  have := heap_alloc_new ((w.alloc (.cells #[.int .i64 p.dims,.int .i64 p.time.n,.slice ta p.time.cells.length tc,.int .i64 p.dist.n,.slice da p.dist.cells.length dc,.slice va' p.vs.length vc',.slice ja p.js.length jc,.slice sa p.ss.length sc] 29)).alloc (.cells #[.int .i64 0,.slice none 0 0,.int .i64 0,.int .i64 0,.int .i64 0,.int .i64 0,.int .i64 0] 71)) (.cells #[.int .i64 p.dims,.int .i64 p.time.n,.slice ta p.time.cells.length tc,.int .i64 p.dist.n,.slice da p.dist.cells.length dc,.slice va' p.vs.length vc',.slice ja p.js.length jc,.slice sa p.ss.length sc,.int .i64 vi,.slice (some ⟨b,off,none⟩) m vc] 121)
  simp only [World.size_alloc] at this
  exact cell_of_row _ _ _ _ _ _ this
 have HC0 : Hid (∀ j,W.cell? ⟨w.heap.size,j,none⟩ = (#[.int .i64 p.dims,.int .i64 p.time.n,.slice ta p.time.cells.length tc,.int .i64 p.dist.n,.slice da p.dist.cells.length dc,.slice va' p.vs.length vc',.slice ja p.js.length jc,.slice sa p.ss.length sc] : Array Value)[j]?) := fun j => by
  have e9 : W.heap[w.heap.size]? = some (.cells #[.int .i64 p.dims,.int .i64 p.time.n,.slice ta p.time.cells.length tc,.int .i64 p.dist.n,.slice da p.dist.cells.length dc,.slice va' p.vs.length vc',.slice ja p.js.length jc,.slice sa p.ss.length sc] 29) := by rw [hW,heap_alloc_old _ _ (by simp;omega),heap_alloc_old _ _ (by simp),heap_alloc_new]
  exact cell_of_row _ _ _ _ _ _ e9
 have HX6 : Hid (W.heap[w.heap.size + 1]? = some (.cells #[.int .i64 0,.slice none 0 0,.int .i64 0,.int .i64 0,.int .i64 0,.int .i64 0,.int .i64 0] 71)) := by
  show _ = _
  rw [hW,heap_alloc_old _ _ (by simp)]
  have := heap_alloc_new (w.alloc (.cells #[.int .i64 p.dims,.int .i64 p.time.n,.slice ta p.time.cells.length tc,.int .i64 p.dist.n,.slice da p.dist.cells.length dc,.slice va' p.vs.length vc',.slice ja p.js.length jc,.slice sa p.ss.length sc] 29)) (.cells #[.int .i64 0,.slice none 0 0,.int .i64 0,.int .i64 0,.int .i64 0,.int .i64 0,.int .i64 0] 71)
  simp only [World.size_alloc] at this
  exact this
 have HX3 : Hid (w.heap.size + 1 < W.heap.size) := by show _ < _;rw [HWS.out];omega
 obtain ⟨mb,hmb⟩ : ∃ b,manB p vi = b := ⟨_,rfl⟩
 have HMB := hide hmb
 clear hmb
 obtain ⟨hb2,hhb⟩ : ∃ b,hasB V = b := ⟨_,rfl⟩
 have HHB := hide hhb
 clear hhb
 cases mb with
 | false =>
  have HE : Hid (easyE p vi V = 160 ∧ easyP p vi V = planZ) := by unfold easyE easyP;rw [HMB.out];exact ⟨rfl,rfl⟩
  go_enter Try.func40,Try.ntmps40
  go_wp2_with (first | (go_at_call 71;rw [← hW];refine (H71.out _ HBW.out).mono ?_;rintro e w1 ⟨rfl,k1⟩;rw [HMB.out];have E1 := hide k1;obtain ⟨ac0,ac1,ac2,ac3,ac4,ac5,ac6⟩ := Mn.c7 ((frz7 HX6.out k1 HX3.out).1);obtain ⟨af0,af1,af2,af3,af4,af5,af6⟩ := Mn.z7 ((frz7 HX6.out k1 HX3.out).2);obtain ⟨at0,at1,at2,at3,at4,at5,at6,at7,at8,at9⟩ := Mn.c10 (fun j => ((bcell k1).1 _ j (by rw [HWS.out];omega)).trans (HC.out j));clear k1) | fail)
  refine bodyPost_ret (v := .tuple #[.agg #[.int .i64 0,.slice none 0 0,.int .i64 0,.int .i64 0,.int .i64 0,.int .i64 0,.int .i64 0],.int .i64 160]) ?_ rfl ⟨_,by rw [HE.out.1],by rw [HE.out.2];exact planZ_any _ _,?_⟩
  · simp [results,Try.results40,go_sem, *]
  · have HBE := below_on HBW.out E1.out
    repeat (first | (with_reducible exact HBE) | (with_reducible refine Below.setCell ?_ (by simp) _) | (with_reducible refine Below.drew ?_))
 | true =>
 cases hb2 with
 | true =>
  have HE : Hid (easyE p vi V = 162 ∧ easyP p vi V = planZ) := by unfold easyE easyP;rw [HMB.out,HHB.out];exact ⟨rfl,rfl⟩
  go_enter Try.func40,Try.ntmps40
  go_wp2_with (first | (go_at_call 72;refine (H72.out _ (below_on HBW.out E1.out)).mono ?_;rintro e w2 ⟨rfl,k2⟩;rw [HHB.out];have E2 := hide (below_on E1.out k2);obtain ⟨bc0,bc1,bc2,bc3,bc4,bc5,bc6⟩ := Mn.c7 ((frz7 HX6.out E2.out HX3.out).1);obtain ⟨bf0,bf1,bf2,bf3,bf4,bf5,bf6⟩ := Mn.z7 ((frz7 HX6.out E2.out HX3.out).2);obtain ⟨bt0,bt1,bt2,bt3,bt4,bt5,bt6,bt7,bt8,bt9⟩ := Mn.c10 (fun j => ((bcell E2.out).1 _ j (by rw [HWS.out];omega)).trans (HC.out j));clear k2 at0 at1 at2 at3 at4 at5 at6 at7 at8 at9 ac0 af0 ac1 af1 ac2 af2 ac3 af3 ac4 af4 ac5 af5 ac6 af6) | (go_at_call 71;rw [← hW];refine (H71.out _ HBW.out).mono ?_;rintro e w1 ⟨rfl,k1⟩;rw [HMB.out];have E1 := hide k1;obtain ⟨ac0,ac1,ac2,ac3,ac4,ac5,ac6⟩ := Mn.c7 ((frz7 HX6.out k1 HX3.out).1);obtain ⟨af0,af1,af2,af3,af4,af5,af6⟩ := Mn.z7 ((frz7 HX6.out k1 HX3.out).2);obtain ⟨at0,at1,at2,at3,at4,at5,at6,at7,at8,at9⟩ := Mn.c10 (fun j => ((bcell k1).1 _ j (by rw [HWS.out];omega)).trans (HC.out j));clear k1) | fail)
  refine bodyPost_ret (v := .tuple #[.agg #[.int .i64 0,.slice none 0 0,.int .i64 0,.int .i64 0,.int .i64 0,.int .i64 0,.int .i64 0],.int .i64 162]) ?_ rfl ⟨_,by rw [HE.out.1],by rw [HE.out.2];exact planZ_any _ _,?_⟩
  · simp [results,Try.results40,go_sem, *]
  · have HBE := below_on HBW.out E2.out
    repeat (first | (with_reducible exact HBE) | (with_reducible refine Below.setCell ?_ (by simp) _) | (with_reducible refine Below.drew ?_))
 | false =>
  have HE : Hid (easyE p vi V = ofE p vi (headV p vi V) ∧ easyP p vi V = ofP p vi (headV p vi V)) := by unfold easyE easyP;rw [HMB.out,HHB.out];exact ⟨rfl,rfl⟩
  have HN7 := hide (HNE.out HMB.out HHB.out)
  obtain ⟨k,hk0,hk⟩ := man_nat HMB.out
  have HVK : Hid (vi.toNat = k) := by show _ = _;rw [hk0];simp
  obtain ⟨ca,cc,ba,bc,hcar⟩ := HP.out.car hk
  have HCAR := hide hcar
  obtain ⟨nb,hnb⟩ : ∃ q,(p.vs.getD k vz).brks.length = q := ⟨_,rfl⟩
  have HNB := hide hnb
  have hnb2 : nb ≤ 2 := by rw [← hnb];exact (veh_ok (law_veh HL.out hk)).two
  have HHV : Hid (headV p vi V = setM V (List.replicate nb 0)) := by show _ = _;unfold headV;rw [HVK.out,hnb]
  obtain ⟨V2,hV2⟩ : ∃ V2,headV p vi V = V2 := ⟨_,rfl⟩
  rw [hV2] at HE HN7 HHV
  have HV2L : Hid (V2.length = m + nb) := by show _ = _;rw [HHV.out,setM_len,HM.out,List.length_replicate]
  clear hV2
  have H74 : Hid (∀ W2,Below w.heap.size w W2 → Calls Try.prog 74 #[.agg #[.int .i64 p.dims,.int .i64 p.time.n,.slice ta p.time.cells.length tc,.int .i64 p.dist.n,.slice da p.dist.cells.length dc,.slice va' p.vs.length vc',.slice ja p.js.length jc,.slice sa p.ss.length sc,.int .i64 vi,.slice (some ⟨b,off,none⟩) m vc]] W2 fun e w' => e = .returned (.agg (vehA (p.vs.getD k vz) (.slice ca (p.vs.getD k vz).cap.length cc) (.slice ba nb bc))) ∧ Below W2.heap.size W2 w') := fun W2 hf => by have h9 := car_at (va := some ⟨b,off,none⟩) (m := m) (vc := vc) (HP.out.on hf) (HCAR.out.on hf);rw [HNB.out] at h9;rw [hk0];exact h9
  have H45 : Hid (∀ W2 ax,Below w.heap.size w W2 → IntsAt W2 ax (List.replicate nb 0) → Calls Try.prog 45 #[.slice (some ⟨b,off,none⟩) m vc,.slice ax nb nb] W2 fun e w' => ∃ a c,e = .returned (.slice a (m + nb) c) ∧ (VsV w' (.slice a (m + nb) c) V2 ∧ (a = none → c = 0)) ∧ Below W2.heap.size W2 w') := fun W2 ax hf hx => by
    have h9 := set_any (n := nb) (ac := nb) (PrV.on HV.out hf) HM.out (by omega) hvc hx (by simp) (by omega)
    rw [← HHV.out] at h9
    refine h9.mono ?_
    rintro e w' ⟨v,rfl,hr,k9⟩
    obtain ⟨a,c,rfl,hz⟩ := hr.shape
    rw [HV2L.out] at hr ⊢
    exact ⟨a,c,rfl,⟨hr.vs (by rw [HV2L.out];omega),hz⟩,k9⟩
  have H36 : Hid (∀ W2 a c,Below w.heap.size w W2 → VsV W2 (.slice a (m + nb) c) V2 ∧ (a = none → c = 0) → Calls Try.prog 36 #[.agg #[.int .i64 p.dims,.int .i64 p.time.n,.slice ta p.time.cells.length tc,.int .i64 p.dist.n,.slice da p.dist.cells.length dc,.slice va' p.vs.length vc',.slice ja p.js.length jc,.slice sa p.ss.length sc],.int .i64 vi,.slice a (m + nb) c] W2 fun e w' => ∃ v,e = .returned (.tuple #[v,.int .i64 (ofE p vi V2)]) ∧ PlanV w' W2.heap.size v (ofP p vi V2) ∧ Below W2.heap.size W2 w') := fun W2 a c hf hv => by have h9 := pof_any (vi := vi) (HP.out.on hf) HL.out hv.1 HV2L.out (by omega) hv.2;exact h9
  obtain ⟨E0,hE0⟩ : ∃ E0,ofE p vi V2 = E0 := ⟨_,rfl⟩
  obtain ⟨P0,hP0⟩ : ∃ P0,ofP p vi V2 = P0 := ⟨_,rfl⟩
  rw [hE0,hP0] at HE
  rw [hE0] at HN7
  simp only [hE0,hP0] at H36
  have hne7 : (E0 != 167) = true := by have := HN7.out;simpa using this
  have HMI := hide (fun wx => Ld.made_ints nb (by omega) wx)
  have hmi := fun wx => Ld.made_ints nb (by omega) wx
  clear hE0 hP0 hcar hnb hk0
  have hfd9 : ∀ X,(Instr.field 86 (.agg (vehA (p.vs.getD k vz) (.slice ca (p.vs.getD k vz).cap.length cc) (.slice ba nb bc))) 9).run Try.prog X = .ok (.slice ba nb bc) X := fun X => by kernel_rfl
  obtain ⟨v1,hv1⟩ : ∃ v1,p.vs.getD k vz = v1 := ⟨_,rfl⟩
  rw [hv1] at H74 hfd9
  clear hv1
  go_enter Try.func40,Try.ntmps40
  go_wp2_with (first | (go_at_call 74;refine (H74.out _ (below_on HBW.out E2.out)).mono ?_;rintro e w3 ⟨rfl,k3⟩;have E3 := hide (below_on E2.out k3);clear k3 bt0 bt1 bt2 bt3 bt4 bt5 bt6 bt7 bt8 bt9 bc0 bf0 bc1 bf1 bc2 bf2 bc3 bf3 bc4 bf4 bc5 bf5 bc6 bf6) | (go_at_call 72;refine (H72.out _ (below_on HBW.out E1.out)).mono ?_;rintro e w2 ⟨rfl,k2⟩;rw [HHB.out];have E2 := hide (below_on E1.out k2);obtain ⟨bc0,bc1,bc2,bc3,bc4,bc5,bc6⟩ := Mn.c7 ((frz7 HX6.out E2.out HX3.out).1);obtain ⟨bf0,bf1,bf2,bf3,bf4,bf5,bf6⟩ := Mn.z7 ((frz7 HX6.out E2.out HX3.out).2);obtain ⟨bt0,bt1,bt2,bt3,bt4,bt5,bt6,bt7,bt8,bt9⟩ := Mn.c10 (fun j => ((bcell E2.out).1 _ j (by rw [HWS.out];omega)).trans (HC.out j));clear k2 at0 at1 at2 at3 at4 at5 at6 at7 at8 at9 ac0 af0 ac1 af1 ac2 af2 ac3 af3 ac4 af4 ac5 af5 ac6 af6) | (go_at_call 71;rw [← hW];refine (H71.out _ HBW.out).mono ?_;rintro e w1 ⟨rfl,k1⟩;rw [HMB.out];have E1 := hide k1;obtain ⟨ac0,ac1,ac2,ac3,ac4,ac5,ac6⟩ := Mn.c7 ((frz7 HX6.out k1 HX3.out).1);obtain ⟨af0,af1,af2,af3,af4,af5,af6⟩ := Mn.z7 ((frz7 HX6.out k1 HX3.out).2);obtain ⟨at0,at1,at2,at3,at4,at5,at6,at7,at8,at9⟩ := Mn.c10 (fun j => ((bcell k1).1 _ j (by rw [HWS.out];omega)).trans (HC.out j));clear k1) | fail)
  obtain ⟨w6,hw6⟩ : ∃ w6,w6 = w3.alloc (.cells (Array.replicate nb (.int .i64 0)) 3) := ⟨_,rfl⟩
  rw [← hw6]
  have HR6 : Hid (IRow w6 w3.heap.size (.slice (some ⟨w3.heap.size,0,none⟩) nb nb) (List.replicate nb 0)) := by show IRow _ _ _ _;rw [hw6];exact Ld.irow_made w3 (Nat.le_refl _) (by omega)
  have E6 : Hid (Below W.heap.size W w6) := by show Below _ _ _;rw [hw6];exact below_on E3.out ((Below.refl _ _).alloc (Nat.le_refl _) _)
  have n6 : W.heap.size ≤ w6.heap.size := E6.out.size
  have n61 : w.heap.size + 1 < w6.heap.size := by have := HX3.out;omega
  clear hmi hfd9 hw6
  obtain ⟨cp0,cp1,cp2,cp3,cp4,cp5,cp6,cp7⟩ := Mn.c8 (fun j => ((bcell E6.out).1 _ j (by rw [HWS.out];omega)).trans (HC0.out j))
  refine wp_region_held_drew (S := (fun w' => w'.cell? ⟨w.heap.size,0,none⟩ = some (.int .i64 p.dims) ∧ w'.cell? ⟨w.heap.size,1,none⟩ = some (.int .i64 p.time.n) ∧ w'.cell? ⟨w.heap.size,2,none⟩ = some (.slice ta p.time.cells.length tc) ∧ w'.cell? ⟨w.heap.size,3,none⟩ = some (.int .i64 p.dist.n) ∧ w'.cell? ⟨w.heap.size,4,none⟩ = some (.slice da p.dist.cells.length dc) ∧ w'.cell? ⟨w.heap.size,5,none⟩ = some (.slice va' p.vs.length vc') ∧ w'.cell? ⟨w.heap.size,6,none⟩ = some (.slice ja p.js.length jc) ∧ w'.cell? ⟨w.heap.size,7,none⟩ = some (.slice sa p.ss.length sc))) (by kernel_rfl) ?_ (fun hHeld0 => ?_)
  · (try dsimp only);go_keep
  refine Mn.t 0 (oi := ⟨some 30,.load 29 (.tmp 3),29,"plan.go:51",#[],none⟩) ?_
  try simp only [Act.put,List.setIfInBounds_toArray]
  refine Mn.t 1 (oi := ⟨some 31,.move (.tmp 1),3,"plan.go:51",#[],none⟩) ?_
  try simp only [Act.put,List.setIfInBounds_toArray]
  refine Mn.t 2 (oi := ⟨some 32,.move (.tmp 2),55,"plan.go:51",#[],none⟩) ?_
  try simp only [Act.put,List.setIfInBounds_toArray]
  refine Mn.t 3 (oi := ⟨some 33,.move (.tmp 9),22,"plan.go:51",#[],none⟩) ?_
  try simp only [Act.put,List.setIfInBounds_toArray]
  refine wpAnyH_ready (rs := [4,9]) (by kernel_rfl) (by simp) ?_
  refine AllReadyH.cons (o := ⟨some 34,.call { callee := .value (.func 45),args := #[.tmp 32,.tmp 33],argTypes := #[55,22] },55,"plan.go:51",#[⟨2,.data⟩,⟨3,.data⟩],none⟩) rfl (fun K hK => ?_) ?_
  ·(refine held_call (by rfl) 45 _ _ (by rfl) hent45 [.slice (some ⟨b,off,none⟩) m vc,.slice (some ⟨w3.heap.size,0,none⟩) nb nb] (by rfl) ?_;refine (H45.out _ _ (below_on HBW.out (below_on E6.out ((Below.refl _ _).drew))) ((IRow.ints HR6.out).later ((Below.refl _ _).drew))).mono ?_;rintro e w7 ⟨a7,c7,rfl,hv7,k7⟩;refine ⟨_,rfl,?_⟩;have HV7 := hide hv7;have K7 := hide (below_on ((Below.refl _ _).drew) k7);have E7 := hide (below_on E6.out K7.out);have n7 : w6.heap.size ≤ w7.heap.size := K7.out.size;obtain ⟨dp0,dp1,dp2,dp3,dp4,dp5,dp6,dp7⟩ := Mn.c8 (fun j => ((bcell E7.out).1 _ j (by rw [HWS.out];omega)).trans (HC0.out j));clear k7 hv7)
   refine hK.out _ _ ?_ (fun hHeld1 => ?_)
   · (try dsimp only);go_keep
   clear hK K
   try simp only [Act.put,List.setIfInBounds_toArray]
   clear hHeld0
   refine wpAnyH_ready (rs := [5,9]) (by kernel_rfl) (by simp) ?_
   refine AllReadyH.cons (o := ⟨some 35,.call { callee := .value (.func 36),args := #[.tmp 30,.tmp 31,.tmp 34],argTypes := #[29,3,55] },72,"plan.go:51",#[⟨0,.data⟩,⟨1,.data⟩,⟨4,.data⟩,⟨4,.chain⟩],none⟩) rfl (fun K hK => ?_) ?_
   ·(refine held_call (by rfl) 36 _ _ (by rfl) hent36 [.agg #[.int .i64 p.dims,.int .i64 p.time.n,.slice ta p.time.cells.length tc,.int .i64 p.dist.n,.slice da p.dist.cells.length dc,.slice va' p.vs.length vc',.slice ja p.js.length jc,.slice sa p.ss.length sc],.int .i64 vi,.slice a7 (m + nb) c7] (by rfl) ?_;refine (H36.out _ _ _ (below_on HBW.out (below_on E7.out (Below.refl _ _))) ⟨PrV.on HV7.out.1 (Below.refl _ _),HV7.out.2⟩).mono ?_;rintro e w8 ⟨v8,rfl,hp8,k8⟩;refine ⟨_,rfl,?_⟩;have HPL := hide hp8;have K8 := hide (below_on (Below.refl _ _) k8);have E8 := hide (below_on E7.out K8.out);have n8 : w7.heap.size ≤ w8.heap.size := K8.out.size;obtain ⟨pa,pn,pc,ys,rfl,_,_,_⟩ := hp8;unfold planC at HPL ⊢;obtain ⟨ep0,ep1,ep2,ep3,ep4,ep5,ep6,ep7⟩ := Mn.c8 (fun j => ((bcell E8.out).1 _ j (by rw [HWS.out];omega)).trans (HC0.out j));obtain ⟨ec0,ec1,ec2,ec3,ec4,ec5,ec6⟩ := Mn.c7 ((frz7 HX6.out E8.out HX3.out).1);obtain ⟨ef0,ef1,ef2,ef3,ef4,ef5,ef6⟩ := Mn.z7 ((frz7 HX6.out E8.out HX3.out).2);have m80 : ¬ w.heap.size = w8.heap.size := (by omega);have m81 : ¬ w.heap.size + 1 = w8.heap.size := (by omega);clear k8)
    refine hK.out _ _ ?_ (fun hHeld2 => ?_)
    · (try dsimp only);go_keep
    clear hK K
    try simp only [Act.put,List.setIfInBounds_toArray]
    clear hHeld1
    refine Mn.t 6 (oi := ⟨some 29,.move (.tmp 35),72,"plan.go:51",#[⟨5,.data⟩],none⟩) ?_
    try simp only [Act.put,List.setIfInBounds_toArray]
    refine Mn.t 7 (oi := ⟨some 36,.extract (.tmp 29) 0,71,"plan.go:51",#[⟨6,.data⟩],none⟩) ?_
    try simp only [Act.put,List.setIfInBounds_toArray]
    refine Mn.t 8 (oi := ⟨some 37,.extract (.tmp 29) 1,62,"plan.go:51",#[⟨6,.data⟩,⟨10,.gcOnly .lateStores⟩],none⟩) ?_
    try simp only [Act.put,List.setIfInBounds_toArray]
    refine wpAnyH_ready (rs := [9]) (by kernel_rfl) (by simp) ?_
    refine AllReadyH.cons (o := ⟨some 10,.alloc 71,0,"plan.go:51",#[],none⟩) rfl (fun K hK => ?_) ?_
    ·go_simp
     refine hK.out _ _ ?_ (fun hHeld3 => ?_)
     · (try dsimp only);go_keep
     clear hK K
     try simp only [Act.put,List.setIfInBounds_toArray]
     clear hHeld2
     refine wpAnyH_ready (rs := [10]) (by kernel_rfl) (by simp) ?_
     refine AllReadyH.cons (o := ⟨none,.store 71 (.tmp 10) (.tmp 36),0,"plan.go:51",#[⟨9,.data⟩,⟨7,.data⟩,⟨5,.chain⟩,⟨0,.phase⟩,⟨1,.phase⟩,⟨2,.phase⟩,⟨3,.phase⟩,⟨4,.phase⟩,⟨5,.phase⟩,⟨6,.phase⟩,⟨7,.phase⟩,⟨8,.textOnly .lateStores⟩,⟨9,.phase⟩],none⟩) rfl (fun K hK => ?_) ?_
     ·go_simp
      refine hK.out _ _ ?_ (fun hHeld4 => ?_)
      · (try dsimp only);(first | (go_keep;done) | (refine ⟨?_,?_,?_,?_,?_,?_,?_,?_⟩ <;> (refine cell_same (w := w8) ?_ (by assumption);(repeat rw [heap_setCell_other _ _ _ _ (by simp;omega)]))))
      clear hK K
      try simp only [Act.put,List.setIfInBounds_toArray]
      clear hHeld3
      refine Mn.t 11 (oi := ⟨some 11,.assign (.tmp 37),62,"plan.go:51",#[⟨8,.data⟩,⟨10,.chain⟩,⟨0,.phase⟩,⟨1,.phase⟩,⟨2,.phase⟩,⟨3,.phase⟩,⟨4,.phase⟩,⟨5,.phase⟩,⟨6,.phase⟩,⟨7,.phase⟩,⟨8,.phase⟩,⟨9,.phase⟩,⟨10,.phase⟩],none⟩) ?_
      try simp only [Act.put,List.setIfInBounds_toArray]
      refine wpAnyH_done (by kernel_rfl) ?_ _
      clear hHeld4
      generalize hwz : w8.alloc (.cells #[.int .i64 P0.veh,.slice pa pn pc,.int .i64 P0.time,.int .i64 P0.dist,.int .i64 P0.wait,.int .i64 P0.serv,.int .i64 P0.cost] 71) = wz
      have HZ1 : Hid (wz.heap[w8.heap.size]? = some (.cells #[.int .i64 P0.veh,.slice pa pn pc,.int .i64 P0.time,.int .i64 P0.dist,.int .i64 P0.wait,.int .i64 P0.serv,.int .i64 P0.cost] 71)) := by show _ = _;rw [← hwz];exact heap_alloc_new _ _
      have KZ : Hid (Below w8.heap.size w8 wz) := by show Below _ _ _;rw [← hwz];exact (Below.refl _ _).alloc (Nat.le_refl _) _
      have HPZ := hide (HPL.out.on KZ.out)
      have EZ := hide (below_on (below_on HBW.out E8.out) KZ.out)
      have e61 := KZ.out.block (w.heap.size + 1) (by omega)
      clear hwz
      have zc0 : wz.cell? ⟨w8.heap.size,0,none⟩ = some (.int .i64 P0.veh) := cell_of_row _ _ _ _ _ _ HZ1.out
      have zc1 : wz.cell? ⟨w8.heap.size,1,none⟩ = some (.slice pa pn pc) := cell_of_row _ _ _ _ _ _ HZ1.out
      have zc2 : wz.cell? ⟨w8.heap.size,2,none⟩ = some (.int .i64 P0.time) := cell_of_row _ _ _ _ _ _ HZ1.out
      have zc3 : wz.cell? ⟨w8.heap.size,3,none⟩ = some (.int .i64 P0.dist) := cell_of_row _ _ _ _ _ _ HZ1.out
      have zc4 : wz.cell? ⟨w8.heap.size,4,none⟩ = some (.int .i64 P0.wait) := cell_of_row _ _ _ _ _ _ HZ1.out
      have zc5 : wz.cell? ⟨w8.heap.size,5,none⟩ = some (.int .i64 P0.serv) := cell_of_row _ _ _ _ _ _ HZ1.out
      have zc6 : wz.cell? ⟨w8.heap.size,6,none⟩ = some (.int .i64 P0.cost) := cell_of_row _ _ _ _ _ _ HZ1.out
      have HX6z := hide ((E8.out.block _ HX3.out).trans HX6.out)
      obtain ⟨yc0,yc1,yc2,yc3,yc4,yc5,yc6⟩ := Mn.c7 ((frz7' HX6z.out e61).1)
      obtain ⟨yf0,yf1,yf2,yf3,yf4,yf5,yf6⟩ := Mn.z7 ((frz7' HX6z.out e61).2)
      clear e61 ec0 ef0 ec1 ef1 ec2 ef2 ec3 ef3 ec4 ef4 ec5 ef5 ec6 ef6 ep0 dp0 ep1 dp1 ep2 dp2 ep3 dp3 ep4 dp4 ep5 dp5 ep6 dp6 ep7 dp7
      go_wp2_with fail
      refine bodyPost_ret (v := .tuple #[.agg #[.int .i64 P0.veh,.slice pa pn pc,.int .i64 P0.time,.int .i64 P0.dist,.int .i64 P0.wait,.int .i64 P0.serv,.int .i64 P0.cost],.int .i64 E0]) ?_ rfl ⟨_,by rw [HE.out.1],?_,?_⟩
      · simp [results,Try.results40,go_sem, *]
      · rw [HE.out.2]
        refine PlanV.mono (HPZ.out.set (r := w.heap.size + 1) ?_ (by (try simp);(try omega))) (by (try simp);(try omega))
        repeat (first | (with_reducible exact grw_refl _ _) | (with_reducible refine grw_set ?_ _ _))
      · have HBE := EZ.out
        repeat (first | (with_reducible exact HBE) | (with_reducible refine Below.setCell ?_ (by simp) _) | (with_reducible refine Below.drew ?_))
     exact AllReadyH.nil
    exact AllReadyH.nil
   refine AllReadyH.cons (o := ⟨some 10,.alloc 71,0,"plan.go:51",#[],none⟩) rfl (fun K hK => ?_) ?_
   ·go_simp
    refine hK.out _ _ ?_ (fun hHeld5 => ?_)
    · (try dsimp only);go_keep
    clear hK K
    try simp only [Act.put,List.setIfInBounds_toArray]
    clear hHeld1
    refine wpAnyH_ready (rs := [5]) (by kernel_rfl) (by simp) ?_
    refine AllReadyH.cons (o := ⟨some 35,.call { callee := .value (.func 36),args := #[.tmp 30,.tmp 31,.tmp 34],argTypes := #[29,3,55] },72,"plan.go:51",#[⟨0,.data⟩,⟨1,.data⟩,⟨4,.data⟩,⟨4,.chain⟩],none⟩) rfl (fun K hK => ?_) ?_
    ·(refine held_call (by rfl) 36 _ _ (by rfl) hent36 [.agg #[.int .i64 p.dims,.int .i64 p.time.n,.slice ta p.time.cells.length tc,.int .i64 p.dist.n,.slice da p.dist.cells.length dc,.slice va' p.vs.length vc',.slice ja p.js.length jc,.slice sa p.ss.length sc],.int .i64 vi,.slice a7 (m + nb) c7] (by rfl) ?_;refine (H36.out _ _ _ (below_on HBW.out (below_on E7.out ((Below.refl _ _).alloc (Nat.le_refl _) _))) ⟨PrV.on HV7.out.1 ((Below.refl _ _).alloc (Nat.le_refl _) _),HV7.out.2⟩).mono ?_;rintro e w8 ⟨v8,rfl,hp8,k8⟩;refine ⟨_,rfl,?_⟩;have HPL := hide hp8;have K8 := hide (below_on ((Below.refl _ _).alloc (Nat.le_refl _) _) k8);have E8 := hide (below_on E7.out K8.out);have n8 : w7.heap.size ≤ w8.heap.size := K8.out.size;obtain ⟨pa,pn,pc,ys,rfl,_,_,_⟩ := hp8;unfold planC at HPL ⊢;obtain ⟨ep0,ep1,ep2,ep3,ep4,ep5,ep6,ep7⟩ := Mn.c8 (fun j => ((bcell E8.out).1 _ j (by rw [HWS.out];omega)).trans (HC0.out j));obtain ⟨ec0,ec1,ec2,ec3,ec4,ec5,ec6⟩ := Mn.c7 ((frz7 HX6.out E8.out HX3.out).1);obtain ⟨ef0,ef1,ef2,ef3,ef4,ef5,ef6⟩ := Mn.z7 ((frz7 HX6.out E8.out HX3.out).2);have HX8 : Hid (w8.heap[w7.heap.size]? = some (.cells #[.int .i64 0,.slice none 0 0,.int .i64 0,.int .i64 0,.int .i64 0,.int .i64 0,.int .i64 0] 71)) := (k8.block _ (by simp)).trans (heap_alloc_new w7 _);have n81 : w7.heap.size < w8.heap.size := (by have := k8.size;simp at this;omega);have m80 : ¬ w.heap.size = w7.heap.size := (by omega);have m81 : ¬ w.heap.size + 1 = w7.heap.size := (by omega);obtain ⟨gc0,gc1,gc2,gc3,gc4,gc5,gc6,gf0,gf1,gf2,gf3,gf4,gf5,gf6⟩ := Mn.x7 (HX8.out);clear k8)
     refine hK.out _ _ ?_ (fun hHeld6 => ?_)
     · (try dsimp only);go_keep
     clear hK K
     try simp only [Act.put,List.setIfInBounds_toArray]
     clear hHeld5
     refine Mn.t 6 (oi := ⟨some 29,.move (.tmp 35),72,"plan.go:51",#[⟨5,.data⟩],none⟩) ?_
     try simp only [Act.put,List.setIfInBounds_toArray]
     refine Mn.t 7 (oi := ⟨some 36,.extract (.tmp 29) 0,71,"plan.go:51",#[⟨6,.data⟩],none⟩) ?_
     try simp only [Act.put,List.setIfInBounds_toArray]
     refine Mn.t 8 (oi := ⟨some 37,.extract (.tmp 29) 1,62,"plan.go:51",#[⟨6,.data⟩,⟨10,.gcOnly .lateStores⟩],none⟩) ?_
     try simp only [Act.put,List.setIfInBounds_toArray]
     refine wpAnyH_ready (rs := [10]) (by kernel_rfl) (by simp) ?_
     refine AllReadyH.cons (o := ⟨none,.store 71 (.tmp 10) (.tmp 36),0,"plan.go:51",#[⟨9,.data⟩,⟨7,.data⟩,⟨5,.chain⟩,⟨0,.phase⟩,⟨1,.phase⟩,⟨2,.phase⟩,⟨3,.phase⟩,⟨4,.phase⟩,⟨5,.phase⟩,⟨6,.phase⟩,⟨7,.phase⟩,⟨8,.textOnly .lateStores⟩,⟨9,.phase⟩],none⟩) rfl (fun K hK => ?_) ?_
     ·go_simp
      refine hK.out _ _ ?_ (fun hHeld7 => ?_)
      · (try dsimp only);(first | (go_keep;done) | (refine ⟨?_,?_,?_,?_,?_,?_,?_,?_⟩ <;> (refine cell_same (w := w8) ?_ (by assumption);(repeat rw [heap_setCell_other _ _ _ _ (by simp;omega)]))))
      clear hK K
      try simp only [Act.put,List.setIfInBounds_toArray]
      clear hHeld6
      refine Mn.t 11 (oi := ⟨some 11,.assign (.tmp 37),62,"plan.go:51",#[⟨8,.data⟩,⟨10,.chain⟩,⟨0,.phase⟩,⟨1,.phase⟩,⟨2,.phase⟩,⟨3,.phase⟩,⟨4,.phase⟩,⟨5,.phase⟩,⟨6,.phase⟩,⟨7,.phase⟩,⟨8,.phase⟩,⟨9,.phase⟩,⟨10,.phase⟩],none⟩) ?_
      try simp only [Act.put,List.setIfInBounds_toArray]
      refine wpAnyH_done (by kernel_rfl) ?_ _
      clear hHeld7
      obtain ⟨wz,hwz,hz1,hz2⟩ := put7 (.int .i64 P0.veh) (.slice pa pn pc) (.int .i64 P0.time) (.int .i64 P0.dist) (.int .i64 P0.wait) (.int .i64 P0.serv) (.int .i64 P0.cost) HX8.out
      rw [← hwz]
      have HZ1 := hide hz1
      have HPZ := hide (HPL.out.set (r := w7.heap.size) hz2 (by (try simp);(try omega)))
      have EZ : Hid (Below w.heap.size w wz) := (below_on HBW.out E8.out).trans (grw_low hz2 (by omega) (by have := (below_on HBW.out E8.out).size;omega))
      have e61 := grw_block hz2 (q := w.heap.size + 1) (by omega) (by omega)
      clear hwz hz1 hz2 gc0 gf0 gc1 gf1 gc2 gf2 gc3 gf3 gc4 gf4 gc5 gf5 gc6 gf6
      have zc0 : wz.cell? ⟨w7.heap.size,0,none⟩ = some (.int .i64 P0.veh) := cell_of_row _ _ _ _ _ _ HZ1.out
      have zc1 : wz.cell? ⟨w7.heap.size,1,none⟩ = some (.slice pa pn pc) := cell_of_row _ _ _ _ _ _ HZ1.out
      have zc2 : wz.cell? ⟨w7.heap.size,2,none⟩ = some (.int .i64 P0.time) := cell_of_row _ _ _ _ _ _ HZ1.out
      have zc3 : wz.cell? ⟨w7.heap.size,3,none⟩ = some (.int .i64 P0.dist) := cell_of_row _ _ _ _ _ _ HZ1.out
      have zc4 : wz.cell? ⟨w7.heap.size,4,none⟩ = some (.int .i64 P0.wait) := cell_of_row _ _ _ _ _ _ HZ1.out
      have zc5 : wz.cell? ⟨w7.heap.size,5,none⟩ = some (.int .i64 P0.serv) := cell_of_row _ _ _ _ _ _ HZ1.out
      have zc6 : wz.cell? ⟨w7.heap.size,6,none⟩ = some (.int .i64 P0.cost) := cell_of_row _ _ _ _ _ _ HZ1.out
      have HX6z := hide ((E8.out.block _ HX3.out).trans HX6.out)
      obtain ⟨yc0,yc1,yc2,yc3,yc4,yc5,yc6⟩ := Mn.c7 ((frz7' HX6z.out e61).1)
      obtain ⟨yf0,yf1,yf2,yf3,yf4,yf5,yf6⟩ := Mn.z7 ((frz7' HX6z.out e61).2)
      clear e61 ec0 ef0 ec1 ef1 ec2 ef2 ec3 ef3 ec4 ef4 ec5 ef5 ec6 ef6 ep0 dp0 ep1 dp1 ep2 dp2 ep3 dp3 ep4 dp4 ep5 dp5 ep6 dp6 ep7 dp7
      go_wp2_with fail
      refine bodyPost_ret (v := .tuple #[.agg #[.int .i64 P0.veh,.slice pa pn pc,.int .i64 P0.time,.int .i64 P0.dist,.int .i64 P0.wait,.int .i64 P0.serv,.int .i64 P0.cost],.int .i64 E0]) ?_ rfl ⟨_,by rw [HE.out.1],?_,?_⟩
      · simp [results,Try.results40,go_sem, *]
      · rw [HE.out.2]
        refine PlanV.mono (HPZ.out.set (r := w.heap.size + 1) ?_ (by (try simp);(try omega))) (by (try simp);(try omega))
        repeat (first | (with_reducible exact grw_refl _ _) | (with_reducible refine grw_set ?_ _ _))
      · have HBE := EZ.out
        repeat (first | (with_reducible exact HBE) | (with_reducible refine Below.setCell ?_ (by simp) _) | (with_reducible refine Below.drew ?_))
     exact AllReadyH.nil
    exact AllReadyH.nil
   exact AllReadyH.nil
  refine AllReadyH.cons (o := ⟨some 10,.alloc 71,0,"plan.go:51",#[],none⟩) rfl (fun K hK => ?_) ?_
  ·go_simp
   refine hK.out _ _ ?_ (fun hHeld8 => ?_)
   · (try dsimp only);go_keep
   clear hK K
   try simp only [Act.put,List.setIfInBounds_toArray]
   clear hHeld0
   refine wpAnyH_ready (rs := [4]) (by kernel_rfl) (by simp) ?_
   refine AllReadyH.cons (o := ⟨some 34,.call { callee := .value (.func 45),args := #[.tmp 32,.tmp 33],argTypes := #[55,22] },55,"plan.go:51",#[⟨2,.data⟩,⟨3,.data⟩],none⟩) rfl (fun K hK => ?_) ?_
   ·(refine held_call (by rfl) 45 _ _ (by rfl) hent45 [.slice (some ⟨b,off,none⟩) m vc,.slice (some ⟨w3.heap.size,0,none⟩) nb nb] (by rfl) ?_;refine (H45.out _ _ (below_on HBW.out (below_on E6.out (below_on ((Below.refl _ _).drew) ((Below.refl _ _).alloc (Nat.le_refl _) _)))) ((IRow.ints HR6.out).later (below_on ((Below.refl _ _).drew) ((Below.refl _ _).alloc (Nat.le_refl _) _)))).mono ?_;rintro e w7 ⟨a7,c7,rfl,hv7,k7⟩;refine ⟨_,rfl,?_⟩;have HV7 := hide hv7;have K7 := hide (below_on (below_on ((Below.refl _ _).drew) ((Below.refl _ _).alloc (Nat.le_refl _) _)) k7);have E7 := hide (below_on E6.out K7.out);have n7 : w6.heap.size ≤ w7.heap.size := K7.out.size;obtain ⟨dp0,dp1,dp2,dp3,dp4,dp5,dp6,dp7⟩ := Mn.c8 (fun j => ((bcell E7.out).1 _ j (by rw [HWS.out];omega)).trans (HC0.out j));have HX7 : Hid (w7.heap[w6.heap.size]? = some (.cells #[.int .i64 0,.slice none 0 0,.int .i64 0,.int .i64 0,.int .i64 0,.int .i64 0,.int .i64 0] 71)) := (k7.block _ (by simp)).trans (heap_alloc_new w6.drew _);have n71 : w6.heap.size < w7.heap.size := (by have := k7.size;simp at this;omega);clear k7 hv7)
    refine hK.out _ _ ?_ (fun hHeld9 => ?_)
    · (try dsimp only);go_keep
    clear hK K
    try simp only [Act.put,List.setIfInBounds_toArray]
    clear hHeld8
    refine wpAnyH_ready (rs := [5]) (by kernel_rfl) (by simp) ?_
    refine AllReadyH.cons (o := ⟨some 35,.call { callee := .value (.func 36),args := #[.tmp 30,.tmp 31,.tmp 34],argTypes := #[29,3,55] },72,"plan.go:51",#[⟨0,.data⟩,⟨1,.data⟩,⟨4,.data⟩,⟨4,.chain⟩],none⟩) rfl (fun K hK => ?_) ?_
    ·(refine held_call (by rfl) 36 _ _ (by rfl) hent36 [.agg #[.int .i64 p.dims,.int .i64 p.time.n,.slice ta p.time.cells.length tc,.int .i64 p.dist.n,.slice da p.dist.cells.length dc,.slice va' p.vs.length vc',.slice ja p.js.length jc,.slice sa p.ss.length sc],.int .i64 vi,.slice a7 (m + nb) c7] (by rfl) ?_;refine (H36.out _ _ _ (below_on HBW.out (below_on E7.out (Below.refl _ _))) ⟨PrV.on HV7.out.1 (Below.refl _ _),HV7.out.2⟩).mono ?_;rintro e w8 ⟨v8,rfl,hp8,k8⟩;refine ⟨_,rfl,?_⟩;have HPL := hide hp8;have K8 := hide (below_on (Below.refl _ _) k8);have E8 := hide (below_on E7.out K8.out);have n8 : w7.heap.size ≤ w8.heap.size := K8.out.size;obtain ⟨pa,pn,pc,ys,rfl,_,_,_⟩ := hp8;unfold planC at HPL ⊢;obtain ⟨ep0,ep1,ep2,ep3,ep4,ep5,ep6,ep7⟩ := Mn.c8 (fun j => ((bcell E8.out).1 _ j (by rw [HWS.out];omega)).trans (HC0.out j));obtain ⟨ec0,ec1,ec2,ec3,ec4,ec5,ec6⟩ := Mn.c7 ((frz7 HX6.out E8.out HX3.out).1);obtain ⟨ef0,ef1,ef2,ef3,ef4,ef5,ef6⟩ := Mn.z7 ((frz7 HX6.out E8.out HX3.out).2);have HX8 : Hid (w8.heap[w6.heap.size]? = some (.cells #[.int .i64 0,.slice none 0 0,.int .i64 0,.int .i64 0,.int .i64 0,.int .i64 0,.int .i64 0] 71)) := (K8.out.block _ n71).trans HX7.out;have m80 : ¬ w.heap.size = w6.heap.size := (by omega);have m81 : ¬ w.heap.size + 1 = w6.heap.size := (by omega);obtain ⟨gc0,gc1,gc2,gc3,gc4,gc5,gc6,gf0,gf1,gf2,gf3,gf4,gf5,gf6⟩ := Mn.x7 (HX8.out);clear k8)
     refine hK.out _ _ ?_ (fun hHeld10 => ?_)
     · (try dsimp only);go_keep
     clear hK K
     try simp only [Act.put,List.setIfInBounds_toArray]
     clear hHeld9
     refine Mn.t 6 (oi := ⟨some 29,.move (.tmp 35),72,"plan.go:51",#[⟨5,.data⟩],none⟩) ?_
     try simp only [Act.put,List.setIfInBounds_toArray]
     refine Mn.t 7 (oi := ⟨some 36,.extract (.tmp 29) 0,71,"plan.go:51",#[⟨6,.data⟩],none⟩) ?_
     try simp only [Act.put,List.setIfInBounds_toArray]
     refine Mn.t 8 (oi := ⟨some 37,.extract (.tmp 29) 1,62,"plan.go:51",#[⟨6,.data⟩,⟨10,.gcOnly .lateStores⟩],none⟩) ?_
     try simp only [Act.put,List.setIfInBounds_toArray]
     refine wpAnyH_ready (rs := [10]) (by kernel_rfl) (by simp) ?_
     refine AllReadyH.cons (o := ⟨none,.store 71 (.tmp 10) (.tmp 36),0,"plan.go:51",#[⟨9,.data⟩,⟨7,.data⟩,⟨5,.chain⟩,⟨0,.phase⟩,⟨1,.phase⟩,⟨2,.phase⟩,⟨3,.phase⟩,⟨4,.phase⟩,⟨5,.phase⟩,⟨6,.phase⟩,⟨7,.phase⟩,⟨8,.textOnly .lateStores⟩,⟨9,.phase⟩],none⟩) rfl (fun K hK => ?_) ?_
     ·go_simp
      refine hK.out _ _ ?_ (fun hHeld11 => ?_)
      · (try dsimp only);(first | (go_keep;done) | (refine ⟨?_,?_,?_,?_,?_,?_,?_,?_⟩ <;> (refine cell_same (w := w8) ?_ (by assumption);(repeat rw [heap_setCell_other _ _ _ _ (by simp;omega)]))))
      clear hK K
      try simp only [Act.put,List.setIfInBounds_toArray]
      clear hHeld10
      refine Mn.t 11 (oi := ⟨some 11,.assign (.tmp 37),62,"plan.go:51",#[⟨8,.data⟩,⟨10,.chain⟩,⟨0,.phase⟩,⟨1,.phase⟩,⟨2,.phase⟩,⟨3,.phase⟩,⟨4,.phase⟩,⟨5,.phase⟩,⟨6,.phase⟩,⟨7,.phase⟩,⟨8,.phase⟩,⟨9,.phase⟩,⟨10,.phase⟩],none⟩) ?_
      try simp only [Act.put,List.setIfInBounds_toArray]
      refine wpAnyH_done (by kernel_rfl) ?_ _
      clear hHeld11
      obtain ⟨wz,hwz,hz1,hz2⟩ := put7 (.int .i64 P0.veh) (.slice pa pn pc) (.int .i64 P0.time) (.int .i64 P0.dist) (.int .i64 P0.wait) (.int .i64 P0.serv) (.int .i64 P0.cost) HX8.out
      rw [← hwz]
      have HZ1 := hide hz1
      have HPZ := hide (HPL.out.set (r := w6.heap.size) hz2 (by (try simp);(try omega)))
      have EZ : Hid (Below w.heap.size w wz) := (below_on HBW.out E8.out).trans (grw_low hz2 (by omega) (by have := (below_on HBW.out E8.out).size;omega))
      have e61 := grw_block hz2 (q := w.heap.size + 1) (by omega) (by omega)
      clear hwz hz1 hz2 gc0 gf0 gc1 gf1 gc2 gf2 gc3 gf3 gc4 gf4 gc5 gf5 gc6 gf6
      have zc0 : wz.cell? ⟨w6.heap.size,0,none⟩ = some (.int .i64 P0.veh) := cell_of_row _ _ _ _ _ _ HZ1.out
      have zc1 : wz.cell? ⟨w6.heap.size,1,none⟩ = some (.slice pa pn pc) := cell_of_row _ _ _ _ _ _ HZ1.out
      have zc2 : wz.cell? ⟨w6.heap.size,2,none⟩ = some (.int .i64 P0.time) := cell_of_row _ _ _ _ _ _ HZ1.out
      have zc3 : wz.cell? ⟨w6.heap.size,3,none⟩ = some (.int .i64 P0.dist) := cell_of_row _ _ _ _ _ _ HZ1.out
      have zc4 : wz.cell? ⟨w6.heap.size,4,none⟩ = some (.int .i64 P0.wait) := cell_of_row _ _ _ _ _ _ HZ1.out
      have zc5 : wz.cell? ⟨w6.heap.size,5,none⟩ = some (.int .i64 P0.serv) := cell_of_row _ _ _ _ _ _ HZ1.out
      have zc6 : wz.cell? ⟨w6.heap.size,6,none⟩ = some (.int .i64 P0.cost) := cell_of_row _ _ _ _ _ _ HZ1.out
      have HX6z := hide ((E8.out.block _ HX3.out).trans HX6.out)
      obtain ⟨yc0,yc1,yc2,yc3,yc4,yc5,yc6⟩ := Mn.c7 ((frz7' HX6z.out e61).1)
      obtain ⟨yf0,yf1,yf2,yf3,yf4,yf5,yf6⟩ := Mn.z7 ((frz7' HX6z.out e61).2)
      clear e61 ec0 ef0 ec1 ef1 ec2 ef2 ec3 ef3 ec4 ef4 ec5 ef5 ec6 ef6 ep0 dp0 ep1 dp1 ep2 dp2 ep3 dp3 ep4 dp4 ep5 dp5 ep6 dp6 ep7 dp7
      go_wp2_with fail
      refine bodyPost_ret (v := .tuple #[.agg #[.int .i64 P0.veh,.slice pa pn pc,.int .i64 P0.time,.int .i64 P0.dist,.int .i64 P0.wait,.int .i64 P0.serv,.int .i64 P0.cost],.int .i64 E0]) ?_ rfl ⟨_,by rw [HE.out.1],?_,?_⟩
      · simp [results,Try.results40,go_sem, *]
      · rw [HE.out.2]
        refine PlanV.mono (HPZ.out.set (r := w.heap.size + 1) ?_ (by (try simp);(try omega))) (by (try simp);(try omega))
        repeat (first | (with_reducible exact grw_refl _ _) | (with_reducible refine grw_set ?_ _ _))
      · have HBE := EZ.out
        repeat (first | (with_reducible exact HBE) | (with_reducible refine Below.setCell ?_ (by simp) _) | (with_reducible refine Below.drew ?_))
     exact AllReadyH.nil
    exact AllReadyH.nil
   exact AllReadyH.nil
  exact AllReadyH.nil
end Go.Proofs.Ytgjpkpmikbpcnaa
