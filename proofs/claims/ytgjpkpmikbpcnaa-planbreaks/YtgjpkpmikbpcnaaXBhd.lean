/-
  What the calls of slices.Clone on numbers and of behind of plan do.
-/
import Derived.Test.YtgjpkpmikbpcnaaXLReadsG
import Derived.Test.YtgjpkpmikbpcnaaXCpBG
namespace Go.Proofs.Ytgjpkpmikbpcnaa
open Go.RowKit
theorem amt_ok {L : List Int} {d : Int} (h : amtB L d = true) : (L.length : Int) = d ∧ ∀ i,i < L.length → 0 ≤ L[i]! ∧ L[i]! ≤ 1000000 := by
 have h := of_decide_eq_true h
 unfold checkE at h
 split at h
 ·split at h
  ·exact ⟨by assumption,by assumption⟩
  ·cases h
 ·cases h
theorem amt_smal {L : List Int} {d : Int} (h : amtB L d = true) : Smal 1000000 L := fun i hi => by
 have := (amt_ok h).2 i hi
 omega
def behindM (p : Prb) (k i : Int) (xs : List Int) : List Int := if thereV p k i = true then (if k = 1 then addL (subL xs (p.js.getD i.toNat jz).drop) (p.js.getD i.toNat jz).pick else if k = 2 then addL xs (p.ss.getD i.toNat hz).amt else subL xs (p.ss.getD i.toNat hz).amt) else xs
theorem behindM_no {p : Prb} {k i : Int} {xs : List Int} (h : thereV p k i = false) : behindM p k i xs = xs := by unfold behindM;rw [h];rfl
theorem behindM_job {p : Prb} {j : Nat} {xs : List Int} (h : thereV p 1 (j : Int) = true) : behindM p 1 (j : Int) xs = addL (subL xs (p.js.getD j jz).drop) (p.js.getD j jz).pick := by unfold behindM;rw [h];simp
theorem behindM_pick {p : Prb} {j : Nat} {xs : List Int} (h : thereV p 2 (j : Int) = true) : behindM p 2 (j : Int) xs = addL xs (p.ss.getD j hz).amt := by unfold behindM;rw [h];simp
theorem behindM_deli {p : Prb} {j : Nat} {xs : List Int} (h : thereV p 3 (j : Int) = true) : behindM p 3 (j : Int) xs = subL xs (p.ss.getD j hz).amt := by unfold behindM;rw [h];simp
theorem app_cloneI {w : World} {L : List Int} {n c : Nat} {ad : Addr} {ops : Array Oper} {rest : List Oper} {o : Oper} {a : Act} {Q : Exit → Act → World → Prop} (s x : Operand)
  (hgd : o.guard = none) (ho : o.op = .call { callee := .builtin .append,args := #[s,x],argTypes := #[22,22] })
  (hs : a.eval s = .slice (some ⟨w.heap.size,0,none⟩) 0 0) (hx : a.eval x = .slice (some ad) n c) (hW : IntsV w (.slice (some ad) L.length c) L) (hn : L.length = n)
  (h : ∀ v' w',w'.ownsRow w.heap.size 3 1 v' n (intsV L) → Below w.heap.size w w' → wpList Try.prog ops Q rest (a.put o.dst v') w') : wpList Try.prog ops Q (o :: rest) a (w.alloc (.cells #[] 3)) := by
 obtain ⟨i0,hi0,hy0,hy1,hy2⟩ := info_parts info3
 have fA : Below w.heap.size w (w.alloc (.cells #[] 3)) := (Below.refl _ _).alloc (Nat.le_refl _) _
 have hown : (w.alloc (.cells #[] 3)).ownsRow w.heap.size 3 1 (.slice (some ⟨w.heap.size,0,none⟩) 0 0) 0 [] := World.ownsRow_made w #[] 0 (Nat.le_refl _) (by decide) (by simp)
 obtain ⟨ad',c',e,_,h2,h3,h4⟩ := src_ints hW (w := w.alloc (.cells #[] 3)) fA.block
 injection e with e1 _ e2
 subst e1 e2
 rw [hn] at h4
 refine wpList_append_own _ hgd s x 22 ho w.heap.size 3 i0 _ 1 8 Try.underlying22 hi0 hy0 hy1 hy2 rfl (by decide) _ 0 [] hs hown ad n c (intsV L) hx (by rw [intsV_len,hn];omega) (h2 ad rfl) h3 (by unfold maxLen;omega) (by omega) fA.size ?_
 intro v' w' h5 h6 _
 rw [Nat.zero_add] at h5
 exact h v' w' h5 (fA.grown h6 fA.size fun q hq => (hown.lt q hq).1)
set_option maxRecDepth 100000 in
set_option maxHeartbeats 3200000 in
theorem cloneI_any {w : World} {v : Value} {L : List Int} (h : IntsV w v L) : Calls Try.prog 113 #[v] w fun e w' => ∃ u,e = .returned u ∧ w'.ownsRow w.heap.size 3 1 u L.length (intsV L) ∧ Below w.heap.size w w' := by
 obtain ⟨a,c,rfl⟩ := h.shape
 have H := hide h
 obtain ⟨n,hn⟩ : ∃ n,L.length = n := ⟨_,rfl⟩
 have HN := hide hn
 clear h
 rw [hn]
 clear hn
 cases a with
 | none =>
  have hnil : ∀ W,(binOp .eql 22 (.slice none n c) (.slice none 0 0)).run Try.prog W = .ok (.bool true) W := fun W => by kernel_rfl
  have hL : L = [] := by
   obtain ⟨a,c,e,_,_,hA⟩ := H.out
   injection e with e1 _ _
   subst e1
   exact intsAt_none hA
  have h0 : n = 0 := by rw [← HN.out,hL];rfl
  subst h0
  go_enter Try.func113,Try.ntmps113
  go_wp2
  go_ret
  exact ⟨_,rfl,by subst hL;exact ⟨rfl,.inl ⟨rfl,rfl⟩⟩,Below.refl _ _⟩
 | some a =>
  have hnil : ∀ W,(binOp .eql 22 (.slice (some a) n c) (.slice none 0 0)).run Try.prog W = .ok (.bool false) W := fun W => by kernel_rfl
  go_enter Try.func113,Try.ntmps113
  go_wp2_with (at_builtin;refine app_cloneI (.tmp 5) (.tmp 6) rfl rfl rfl rfl H.out HN.out ?_;intro u1 w1 k1 k2;have K1 := hide k1;have K2 := hide k2;clear k1 k2)
  go_ret
  exact ⟨_,rfl,K1.out,K2.out⟩
set_option maxRecDepth 100000 in
set_option maxHeartbeats 3200000 in
theorem behind_no {w : World} {x : PrbS} {p : Prb} {a : Option Addr} {n ca : Nat} {xs : List Int} (h : PrbV w x p) (k i : Int) (ha : IntsAt w a xs) (hc : a = none → ca = 0) (hn : xs.length = n) (hn3 : n ≤ 3) (ht : thereV p k i = false) : Calls Try.prog 81 #[.agg (prbE p x),.agg #[.int .i64 k,.int .i64 i],.slice a n ca] w fun e w' => ∃ u,e = .returned u ∧ w'.ownsRow w.heap.size 3 1 u n (intsV xs) ∧ Below w.heap.size w w' := by
 have HB0 : Hid (∀ A B,Below w.heap.size w ((w.alloc A).alloc B)) := fun A B => ((Below.refl _ _).alloc (Nat.le_refl _) A).alloc (by simp) B
 have HP := hide h
 obtain ⟨ta,tc,da,dc,va,vc,ja,jc,sa,sc,rfl⟩ := h.open
 have HT := hide ht
 have HI : Hid (IntsV w (.slice a n ca) xs) := ⟨a,ca,by rw [hn],hc,by omega,ha⟩
 have HN := hide hn
 clear h ht ha hn hc
 unfold prbE
 go_enter Try.func81,Try.ntmps81
 go_wp2_with (first | (go_at_call 113;refine (cloneI_any (HI.out.on (below_on (HB0.out _ _) B1.out))).mono ?_;rintro e w2 ⟨u2,rfl,R2,k2⟩;rw [HN.out] at R2;have HR2 := hide R2;have B2 := hide (below_on B1.out k2);have S1 := hide B1.out.size;clear R2 k2) | (go_at_call 78;refine (isThere_any (HP.out.on (HB0.out _ _)) _ _).mono ?_;rintro e w1 ⟨rfl,k1⟩;rw [HT.out];have B1 := hide k1;clear k1) | fail)
 go_ret
 exact ⟨_,rfl,own_mono HR2.out (by have := S1.out;simp at this;omega),below_on (HB0.out _ _) B2.out⟩
set_option maxRecDepth 100000 in
set_option maxHeartbeats 6400000 in
theorem behind_job {w : World} {x : PrbS} {p : Prb} {a : Option Addr} {n ca j : Nat} {xs : List Int} (h : PrbV w x p) (hL : lawM p = true) (hj : j < p.js.length) (hd : p.dims = n) (ha : IntsAt w a xs) (hn : xs.length = n) (hn3 : n ≤ 3) (hs : Smal 10000000000 xs) (ht : thereV p 1 (j : Int) = true) : Calls Try.prog 81 #[.agg (prbE p x),.agg #[.int .i64 1,.int .i64 j],.slice a n ca] w fun e w' => ∃ u,e = .returned u ∧ w'.ownsRow w.heap.size 3 1 u n (intsV (addL (subL xs (p.js.getD j jz).drop) (p.js.getD j jz).pick)) ∧ Below w.heap.size w w' := by
 have HB0 : Hid (∀ A B,Below w.heap.size w ((w.alloc A).alloc B)) := fun A B => ((Below.refl _ _).alloc (Nat.le_refl _) A).alloc (by simp) B
 have HP := hide h
 obtain ⟨b,off,cc,x1,x2,xa,he,hb,hcs,q1,q2,q3⟩ := job_cells h.j hj
 obtain ⟨ta,tc,da,dc,va,vc,ja,jc,sa,sc,rfl⟩ := h.open
 simp only at he
 injection he with he1 _ he3
 subst he1 he3
 have hJ := law_job hL hj
 unfold jobB at hJ
 simp only [Bool.and_eq_true] at hJ
 have am1 := hJ.1.1.1.2
 have am2 := hJ.1.1.2
 obtain ⟨fa,fc,rfl⟩ := q2.shape
 obtain ⟨ga,gc,rfl⟩ := q3.shape
 have c3 : w.cell? ⟨b,off + j * 7 + 3,none⟩ = some (.slice fa (p.js.getD j jz).drop.length fc) := hcs 3 (by decide)
 have c4 : w.cell? ⟨b,off + j * 7 + 4,none⟩ = some (.slice ga (p.js.getD j jz).pick.length gc) := hcs 4 (by decide)
 obtain ⟨D,hD⟩ : ∃ D,(p.js.getD j jz).drop = D := ⟨_,rfl⟩
 obtain ⟨E,hE⟩ : ∃ E,(p.js.getD j jz).pick = E := ⟨_,rfl⟩
 rw [hD] at c3 am1 q2
 rw [hE] at c4 am2 q3
 rw [hD,hE]
 have lD : D.length = n := by have := (amt_ok am1).1;omega
 have lE : E.length = n := by have := (amt_ok am2).1;omega
 rw [lD] at c3 q2
 rw [lE] at c4 q3
 have HSD := hide (amt_smal am1)
 have HSE := hide (amt_smal am2)
 have HID : Hid (IntsAt w fa D) := by obtain ⟨a',c',e',_,_,hA⟩ := q2;injection e' with e1 _ _;subst e1;exact hA
 have HIE : Hid (IntsAt w ga E) := by obtain ⟨a',c',e',_,_,hA⟩ := q3;injection e' with e1 _ _;subst e1;exact hA
 have HLD := hide lD
 have HLE := hide lE
 clear hJ am1 am2 q1 q2 q3 hcs hD hE lD lE
 have HT := hide ht
 have HA := hide ha
 have HN := hide hn
 have HS := hide (hs.mono (show (10000000000 : Int) ≤ 100000000000 by decide))
 have HS0 := hide hs
 obtain ⟨ln,hln⟩ : ∃ q,p.js.length = q := ⟨_,rfl⟩
 have hbd := SlV.bound h.j
 rw [hln] at hj HP hbd
 have i1 : (0 : Int) ≤ (j : Int) := by omega
 have i2 : (j : Int) < (ln : Int) := by omega
 have i3 : ¬ (ln : Int) ≤ (j : Int) := by omega
 unfold prbE
 rw [hln]
 clear h ht ha hn hs hln hL hd
 go_enter Try.func81,Try.ntmps81
 have HLS : Hid ((subL xs D).length = n) := by show _ = _;rw [subL_len];exact HN.out
 have HSS : Hid (Smal 100000000000 (subL xs D)) := (HS0.out.sub HSD.out (HN.out.trans HLD.out.symm)).mono (by decide)
 go_wp2_with (first | (go_at_call 78;refine (isThere_any (HP.out.on (HB0.out _ _)) _ _).mono ?_;rintro e w1 ⟨rfl,kk⟩;rw [HT.out];have B1 := hide kk;have S1 := hide (below_on (HB0.out _ _) kk);have l1 := kk.size;simp at l1;have p6 : w1.cell? ⟨w.heap.size,6,none⟩ = some (.slice (some ⟨b,off,none⟩) ln jc) := ((bcell kk).1 _ 6 (by simp;omega)).trans (by simp [go_sem]);have v0 : w1.cell? ⟨w.heap.size + 1,0,none⟩ = some (.int .i64 1) := ((bcell kk).1 _ 0 (by simp)).trans (by simp [go_sem]);have v1 : w1.cell? ⟨w.heap.size + 1,1,none⟩ = some (.int .i64 j) := ((bcell kk).1 _ 1 (by simp)).trans (by simp [go_sem]);have d3 : w1.cell? ⟨b,off + j * 7 + 3,none⟩ = some (.slice fa n fc) := ((bcell (below_on (HB0.out _ _) kk)).1 b _ hb).trans c3;have d4 : w1.cell? ⟨b,off + j * 7 + 4,none⟩ = some (.slice ga n gc) := ((bcell (below_on (HB0.out _ _) kk)).1 b _ hb).trans c4;clear kk) | fail)
 first | (go_region_held3 (fun w' => w'.cell? ⟨w.heap.size,6,none⟩ = some (.slice (some ⟨b,off,none⟩) ln jc) ∧ w'.cell? ⟨w.heap.size + 1,1,none⟩ = some (.int .i64 j) ∧ w'.cell? ⟨b,off + j * 7 + 3,none⟩ = some (.slice fa n fc) ∧ w'.cell? ⟨b,off + j * 7 + 4,none⟩ = some (.slice ga n gc)) (go_keep) (first | (go_at_call 79;refine (made_add (IRow.ints HR2.out) (HIE.out.later (below_on S1.out E2.out)) HLS.out HLE.out hn3 HSS.out (HSE.out.mono (by decide))).mono ?_;rintro e w3 ⟨a3,c3',rfl,R3,k3⟩;have HR3 := hide R3;have E3 := hide (below_on E2.out k3);have B3 := hide (below_on B2.out k3);have tp6 : w3.cell? ⟨w.heap.size,6,none⟩ = some (.slice (some ⟨b,off,none⟩) ln jc) := ((bcell E3.out).1 _ 6 (by omega)).trans p6;have tv1 : w3.cell? ⟨w.heap.size + 1,1,none⟩ = some (.int .i64 j) := ((bcell E3.out).1 _ 1 (by omega)).trans v1;have td3 : w3.cell? ⟨b,off + j * 7 + 3,none⟩ = some (.slice fa n fc) := ((bcell E3.out).1 b _ (by omega)).trans d3;have td4 : w3.cell? ⟨b,off + j * 7 + 4,none⟩ = some (.slice ga n gc) := ((bcell E3.out).1 b _ (by omega)).trans d4;clear R3 k3) | (go_at_call 79;refine (made_sub (HA.out.later (below_on S1.out ((Below.refl _ _).drew))) (HID.out.later (below_on S1.out ((Below.refl _ _).drew))) HN.out HLD.out hn3 HS.out (HSD.out.mono (by decide))).mono ?_;rintro e w2 ⟨a2,c2,rfl,R2,k2⟩;have HR2 := hide R2;have E2 := hide (below_on ((Below.refl _ _).drew) k2);have B2 := hide (below_on B1.out E2.out);have sp6 : w2.cell? ⟨w.heap.size,6,none⟩ = some (.slice (some ⟨b,off,none⟩) ln jc) := ((bcell E2.out).1 _ 6 (by omega)).trans p6;have sv1 : w2.cell? ⟨w.heap.size + 1,1,none⟩ = some (.int .i64 j) := ((bcell E2.out).1 _ 1 (by omega)).trans v1;have sd3 : w2.cell? ⟨b,off + j * 7 + 3,none⟩ = some (.slice fa n fc) := ((bcell E2.out).1 b _ (by omega)).trans d3;have sd4 : w2.cell? ⟨b,off + j * 7 + 4,none⟩ = some (.slice ga n gc) := ((bcell E2.out).1 b _ (by omega)).trans d4;clear R2 k2) | fail)) | fail
 rename_i hHeld
 clear hHeld
 go_wp2
 go_ret
 refine ⟨_,rfl,?_,below_on (HB0.out _ _) B3.out⟩
 have h9 := HR3.out
 unfold IRow at h9
 rw [addL_len,subL_len,HN.out] at h9
 exact own_mono h9 (by have := E2.out.size;omega)
set_option maxRecDepth 100000 in
set_option maxHeartbeats 6400000 in
theorem behind_pick {w : World} {x : PrbS} {p : Prb} {a : Option Addr} {n ca j : Nat} {xs : List Int} (h : PrbV w x p) (hL : lawM p = true) (hj : j < p.ss.length) (hd : p.dims = n) (ha : IntsAt w a xs) (hn : xs.length = n) (hn3 : n ≤ 3) (hs : Smal 10000000000 xs) (ht : thereV p 2 (j : Int) = true) : Calls Try.prog 81 #[.agg (prbE p x),.agg #[.int .i64 2,.int .i64 j],.slice a n ca] w fun e w' => ∃ u,e = .returned u ∧ w'.ownsRow w.heap.size 3 1 u n (intsV (addL xs (p.ss.getD j hz).amt)) ∧ Below w.heap.size w w' := by
 have HB0 : Hid (∀ A B,Below w.heap.size w ((w.alloc A).alloc B)) := fun A B => ((Below.refl _ _).alloc (Nat.le_refl _) A).alloc (by simp) B
 have HP := hide h
 obtain ⟨b,off,cc,x1,x2,xa,he,hb,hcs,q1,q2,q3⟩ := shp_cells h.s hj
 obtain ⟨ta,tc,da,dc,va,vc,ja,jc,sa,sc,rfl⟩ := h.open
 simp only at he
 injection he with he1 _ he3
 subst he1 he3
 have hJ := law_shp hL hj
 unfold shpB at hJ
 simp only [Bool.and_eq_true] at hJ
 have am1 := hJ.1.1.2
 obtain ⟨fa,fc,rfl⟩ := q3.shape
 have c3 : w.cell? ⟨b,off + j * 9 + 6,none⟩ = some (.slice fa (p.ss.getD j hz).amt.length fc) := hcs 6 (by decide)
 obtain ⟨D,hD⟩ : ∃ D,(p.ss.getD j hz).amt = D := ⟨_,rfl⟩
 rw [hD] at c3 am1 q3
 rw [hD]
 have lD : D.length = n := by have := (amt_ok am1).1;omega
 rw [lD] at c3 q3
 have HSD := hide (amt_smal am1)
 have HID : Hid (IntsAt w fa D) := by obtain ⟨a',c',e',_,_,hA⟩ := q3;injection e' with e1 _ _;subst e1;exact hA
 have HLD := hide lD
 clear hJ am1 q1 q2 q3 hcs hD lD
 have HT := hide ht
 have HA := hide ha
 have HN := hide hn
 have HS := hide (hs.mono (show (10000000000 : Int) ≤ 100000000000 by decide))
 have HS0 := hide hs
 obtain ⟨ln,hln⟩ : ∃ q,p.ss.length = q := ⟨_,rfl⟩
 have hbd := SlV.bound h.s
 rw [hln] at hj HP hbd
 have i1 : (0 : Int) ≤ (j : Int) := by omega
 have i2 : (j : Int) < (ln : Int) := by omega
 have i3 : ¬ (ln : Int) ≤ (j : Int) := by omega
 unfold prbE
 rw [hln]
 clear h ht ha hn hs hln hL hd
 go_enter Try.func81,Try.ntmps81
 go_wp2_with (first | (go_at_call 79;refine (made_add (HA.out.later S1.out) (HID.out.later S1.out) HN.out HLD.out hn3 HS.out (HSD.out.mono (by decide))).mono ?_;rintro e w2 ⟨a2,c2,rfl,R2,k2⟩;have HR2 := hide R2;have B2 := hide (below_on B1.out k2);clear R2 k2) | (go_at_call 78;refine (isThere_any (HP.out.on (HB0.out _ _)) _ _).mono ?_;rintro e w1 ⟨rfl,kk⟩;rw [HT.out];have B1 := hide kk;have S1 := hide (below_on (HB0.out _ _) kk);have l1 := kk.size;simp at l1;have p7 : w1.cell? ⟨w.heap.size,7,none⟩ = some (.slice (some ⟨b,off,none⟩) ln sc) := ((bcell kk).1 _ 7 (by simp;omega)).trans (by simp [go_sem]);have v0 : w1.cell? ⟨w.heap.size + 1,0,none⟩ = some (.int .i64 2) := ((bcell kk).1 _ 0 (by simp)).trans (by simp [go_sem]);have v1 : w1.cell? ⟨w.heap.size + 1,1,none⟩ = some (.int .i64 j) := ((bcell kk).1 _ 1 (by simp)).trans (by simp [go_sem]);have d3 : w1.cell? ⟨b,off + j * 9 + 6,none⟩ = some (.slice fa n fc) := ((bcell (below_on (HB0.out _ _) kk)).1 b _ hb).trans c3;clear kk) | fail)
 go_ret
 refine ⟨_,rfl,?_,below_on (HB0.out _ _) B2.out⟩
 have h9 := HR2.out
 unfold IRow at h9
 rw [addL_len,HN.out] at h9
 exact own_mono h9 (by omega)
set_option maxRecDepth 100000 in
set_option maxHeartbeats 6400000 in
theorem behind_deli {w : World} {x : PrbS} {p : Prb} {a : Option Addr} {n ca j : Nat} {xs : List Int} (h : PrbV w x p) (hL : lawM p = true) (hj : j < p.ss.length) (hd : p.dims = n) (ha : IntsAt w a xs) (hn : xs.length = n) (hn3 : n ≤ 3) (hs : Smal 10000000000 xs) (ht : thereV p 3 (j : Int) = true) : Calls Try.prog 81 #[.agg (prbE p x),.agg #[.int .i64 3,.int .i64 j],.slice a n ca] w fun e w' => ∃ u,e = .returned u ∧ w'.ownsRow w.heap.size 3 1 u n (intsV (subL xs (p.ss.getD j hz).amt)) ∧ Below w.heap.size w w' := by
 have HB0 : Hid (∀ A B,Below w.heap.size w ((w.alloc A).alloc B)) := fun A B => ((Below.refl _ _).alloc (Nat.le_refl _) A).alloc (by simp) B
 have HP := hide h
 obtain ⟨b,off,cc,x1,x2,xa,he,hb,hcs,q1,q2,q3⟩ := shp_cells h.s hj
 obtain ⟨ta,tc,da,dc,va,vc,ja,jc,sa,sc,rfl⟩ := h.open
 simp only at he
 injection he with he1 _ he3
 subst he1 he3
 have hJ := law_shp hL hj
 unfold shpB at hJ
 simp only [Bool.and_eq_true] at hJ
 have am1 := hJ.1.1.2
 obtain ⟨fa,fc,rfl⟩ := q3.shape
 have c3 : w.cell? ⟨b,off + j * 9 + 6,none⟩ = some (.slice fa (p.ss.getD j hz).amt.length fc) := hcs 6 (by decide)
 obtain ⟨D,hD⟩ : ∃ D,(p.ss.getD j hz).amt = D := ⟨_,rfl⟩
 rw [hD] at c3 am1 q3
 rw [hD]
 have lD : D.length = n := by have := (amt_ok am1).1;omega
 rw [lD] at c3 q3
 have HSD := hide (amt_smal am1)
 have HID : Hid (IntsAt w fa D) := by obtain ⟨a',c',e',_,_,hA⟩ := q3;injection e' with e1 _ _;subst e1;exact hA
 have HLD := hide lD
 clear hJ am1 q1 q2 q3 hcs hD lD
 have HT := hide ht
 have HA := hide ha
 have HN := hide hn
 have HS := hide (hs.mono (show (10000000000 : Int) ≤ 100000000000 by decide))
 have HS0 := hide hs
 obtain ⟨ln,hln⟩ : ∃ q,p.ss.length = q := ⟨_,rfl⟩
 have hbd := SlV.bound h.s
 rw [hln] at hj HP hbd
 have i1 : (0 : Int) ≤ (j : Int) := by omega
 have i2 : (j : Int) < (ln : Int) := by omega
 have i3 : ¬ (ln : Int) ≤ (j : Int) := by omega
 unfold prbE
 rw [hln]
 clear h ht ha hn hs hln hL hd
 go_enter Try.func81,Try.ntmps81
 go_wp2_with (first | (go_at_call 79;refine (made_sub (HA.out.later S1.out) (HID.out.later S1.out) HN.out HLD.out hn3 HS.out (HSD.out.mono (by decide))).mono ?_;rintro e w2 ⟨a2,c2,rfl,R2,k2⟩;have HR2 := hide R2;have B2 := hide (below_on B1.out k2);clear R2 k2) | (go_at_call 78;refine (isThere_any (HP.out.on (HB0.out _ _)) _ _).mono ?_;rintro e w1 ⟨rfl,kk⟩;rw [HT.out];have B1 := hide kk;have S1 := hide (below_on (HB0.out _ _) kk);have l1 := kk.size;simp at l1;have p7 : w1.cell? ⟨w.heap.size,7,none⟩ = some (.slice (some ⟨b,off,none⟩) ln sc) := ((bcell kk).1 _ 7 (by simp;omega)).trans (by simp [go_sem]);have v0 : w1.cell? ⟨w.heap.size + 1,0,none⟩ = some (.int .i64 3) := ((bcell kk).1 _ 0 (by simp)).trans (by simp [go_sem]);have v1 : w1.cell? ⟨w.heap.size + 1,1,none⟩ = some (.int .i64 j) := ((bcell kk).1 _ 1 (by simp)).trans (by simp [go_sem]);have d3 : w1.cell? ⟨b,off + j * 9 + 6,none⟩ = some (.slice fa n fc) := ((bcell (below_on (HB0.out _ _) kk)).1 b _ hb).trans c3;clear kk) | fail)
 go_ret
 refine ⟨_,rfl,?_,below_on (HB0.out _ _) B2.out⟩
 have h9 := HR2.out
 unfold IRow at h9
 rw [subL_len,HN.out] at h9
 exact own_mono h9 (by omega)
theorem behind_any {w : World} {x : PrbS} {p : Prb} {a : Option Addr} {n ca : Nat} {xs : List Int} (h : PrbV w x p) (hL : lawM p = true) (k i : Int) (hd : p.dims = n) (ha : IntsAt w a xs) (hc : a = none → ca = 0) (hn : xs.length = n) (hn3 : n ≤ 3) (hs : Smal 10000000000 xs) : Calls Try.prog 81 #[.agg (prbE p x),.agg #[.int .i64 k,.int .i64 i],.slice a n ca] w fun e w' => ∃ u,e = .returned u ∧ w'.ownsRow w.heap.size 3 1 u n (intsV (behindM p k i xs)) ∧ Below w.heap.size w w' := by
 cases ht : thereV p k i with
 | false => rw [behindM_no ht];exact behind_no h k i ha hc hn hn3 ht
 | true =>
  rcases thereV_cases ht with ⟨rfl,j,rfl,hj,_⟩ | ⟨rfl,j,rfl,hj,_⟩ | ⟨rfl,j,rfl,hj,_⟩
  ·rw [behindM_job ht];exact behind_job h hL hj hd ha hn hn3 hs ht
  ·rw [behindM_pick ht];exact behind_pick h hL hj hd ha hn hn3 hs ht
  ·rw [behindM_deli ht];exact behind_deli h hL hj hd ha hn hn3 hs ht
end Go.Proofs.Ytgjpkpmikbpcnaa
