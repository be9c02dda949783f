/-
  Several texts in one: CAsk CVis CStpO.
-/
import Derived.Test.YtndbikoccdjafaaBCChkAG
namespace Go.Proofs.Ytndbikoccdjafaa
open Go.RowKit
abbrev Tsk := Bool × Int
def thereM (p : Prb) (t : Tsk) : Bool := if t.1 = true then upB t.2 ((p.ss.length : Int) - 1) else upB t.2 ((p.js.length : Int) - 1)
def prioM (p : Prb) (t : Tsk) : Int := if thereM p t = true then (if t.1 = true then (p.ss.getD t.2.toNat hz).prio else (p.js.getD t.2.toNat jz).prio) else 0
def sklM (p : Prb) (t : Tsk) : Int := if thereM p t = true then (if t.1 = true then (p.ss.getD t.2.toNat hz).skills else (p.js.getD t.2.toNat jz).skills) else 0
theorem there_ship {p : Prb} {i : Int} (h : thereM p (true,i) = true) : ∃ k : Nat,i = k ∧ k < p.ss.length := by
 have := upB_iff.1 (show upB i ((p.ss.length : Int) - 1) = true from h)
 exact ⟨i.toNat,by omega,by omega⟩
theorem there_job {p : Prb} {i : Int} (h : thereM p (false,i) = true) : ∃ k : Nat,i = k ∧ k < p.js.length := by
 have := upB_iff.1 (show upB i ((p.js.length : Int) - 1) = true from h)
 exact ⟨i.toNat,by omega,by omega⟩
theorem prio_ship {p : Prb} {k : Nat} (h : thereM p (true,(k : Int)) = true) : prioM p (true,(k : Int)) = (p.ss.getD k hz).prio := by
 unfold prioM;rw [if_pos h];simp
theorem prio_job {p : Prb} {k : Nat} (h : thereM p (false,(k : Int)) = true) : prioM p (false,(k : Int)) = (p.js.getD k jz).prio := by
 unfold prioM;rw [if_pos h];simp
theorem skl_ship {p : Prb} {k : Nat} (h : thereM p (true,(k : Int)) = true) : sklM p (true,(k : Int)) = (p.ss.getD k hz).skills := by
 unfold sklM;rw [if_pos h];simp
theorem skl_job {p : Prb} {k : Nat} (h : thereM p (false,(k : Int)) = true) : sklM p (false,(k : Int)) = (p.js.getD k jz).skills := by
 unfold sklM;rw [if_pos h];simp
theorem prio_no {p : Prb} {t : Tsk} (h : thereM p t = false) : prioM p t = 0 := by unfold prioM;rw [h];rfl
theorem skl_none {p : Prb} {t : Tsk} (h : thereM p t = false) : sklM p t = 0 := by unfold sklM;rw [h];rfl
theorem shp_cells {w : World} {v : Value} {L : List Shp} {k : Nat} (h : ShpsV w v L) (hk : k < L.length) : ∃ b off c x1 x2 xa,v = .slice (some ⟨b,off,none⟩) L.length c ∧ b < w.heap.size ∧ (∀ j,j < 9 → w.cell? ⟨b,off + k * 9 + j,none⟩ = (shpE (L.getD k hz) x1 x2 xa)[j]?) ∧ WinsV w x1 (L.getD k hz).pick.wins ∧ WinsV w x2 (L.getD k hz).deli.wins ∧ IntsV w xa (L.getD k hz).amt := by
 obtain ⟨a,c,rfl,_,_,hc⟩ := h
 obtain ⟨b,off,l,rfl,hl,hcs,x1,x2,xa,rfl,q1,q2,q3,_⟩ := hc k hk
 have h0 : w.cell? ⟨b,off + k * 9 + 0,none⟩ = some _ := hcs 0 (by decide)
 exact ⟨b,off,c,x1,x2,xa,rfl,block_lt_of_cell h0,hcs,q1,q2,q3⟩
theorem job_cells {w : World} {v : Value} {L : List Jb} {k : Nat} (h : JobsV w v L) (hk : k < L.length) : ∃ b off c x1 x2 xa,v = .slice (some ⟨b,off,none⟩) L.length c ∧ b < w.heap.size ∧ (∀ j,j < 7 → w.cell? ⟨b,off + k * 7 + j,none⟩ = (jobE (L.getD k jz) x1 x2 xa)[j]?) ∧ WinsV w x1 (L.getD k jz).stop.wins ∧ IntsV w x2 (L.getD k jz).drop ∧ IntsV w xa (L.getD k jz).pick := by
 obtain ⟨a,c,rfl,_,_,hc⟩ := h
 obtain ⟨b,off,l,rfl,hl,hcs,x1,x2,xa,rfl,q1,q2,q3,_⟩ := hc k hk
 have h0 : w.cell? ⟨b,off + k * 7 + 0,none⟩ = some _ := hcs 0 (by decide)
 exact ⟨b,off,c,x1,x2,xa,rfl,block_lt_of_cell h0,hcs,q1,q2,q3⟩
set_option maxRecDepth 100000 in
set_option maxHeartbeats 1600000 in
theorem there_any {w : World} {x : PrbS} {p : Prb} (h : PrbV w x p) (s : Bool) (i : Int) : Calls Try.prog 109 #[.agg (prbE p x),.agg #[.bool s,.int .i64 i]] w fun e w' => e = .returned (.bool (thereM p (s,i))) ∧ Below w.heap.size w w' := by
 obtain ⟨ta,tc,da,dc,va,vc,ja,jc,sa,sc,rfl⟩ := h.open
 have HB0 : Hid (∀ A B,Below w.heap.size w ((w.alloc A).alloc B)) := fun A B => ((Below.refl _ _).alloc (Nat.le_refl _) A).alloc (by simp) B
 unfold prbE thereM
 clear h
 cases s with
 | true =>
  go_enter Try.func109,Try.ntmps109
  go_wp2_with (go_at_call 90;refine (below_any _ _ _).mono ?_;rintro e w' ⟨rfl,rfl⟩)
  go_ret
  exact ⟨rfl,HB0.out _ _⟩
 | false =>
  go_enter Try.func109,Try.ntmps109
  go_wp2_with (go_at_call 90;refine (below_any _ _ _).mono ?_;rintro e w' ⟨rfl,rfl⟩)
  go_ret
  exact ⟨rfl,HB0.out _ _⟩
set_option maxRecDepth 100000 in
set_option maxHeartbeats 1600000 in
theorem rthere_any {w : World} {x : PrbS} {p : Prb} (h : PrbV w x p) (s : Bool) (i : Int) : Calls Try.prog 62 #[.agg (prbE p x),.agg #[.bool s,.int .i64 i]] w fun e w' => e = .returned (.bool (thereM p (s,i))) ∧ Below w.heap.size w w' := by
 obtain ⟨ta,tc,da,dc,va,vc,ja,jc,sa,sc,rfl⟩ := h.open
 have hj := SlV.bound h.j
 have hs := SlV.bound h.s
 have HB0 : Hid (∀ A B,Below w.heap.size w ((w.alloc A).alloc B)) := fun A B => ((Below.refl _ _).alloc (Nat.le_refl _) A).alloc (by simp) B
 unfold prbE thereM
 clear h
 cases s with
 | true =>
  go_enter Try.func62,Try.ntmps62
  go_wp2_with (go_at_call 63;refine (up_any _ _ _).mono ?_;rintro e w' ⟨rfl,rfl⟩)
  go_ret
  exact ⟨rfl,HB0.out _ _⟩
 | false =>
  go_enter Try.func62,Try.ntmps62
  go_wp2_with (go_at_call 63;refine (up_any _ _ _).mono ?_;rintro e w' ⟨rfl,rfl⟩)
  go_ret
  exact ⟨rfl,HB0.out _ _⟩
set_option maxRecDepth 100000 in
set_option maxHeartbeats 1600000 in
theorem facts_any {w : World} {x : PrbS} {p : Prb} (h : PrbV w x p) (s : Bool) (i : Int) : Calls Try.prog 98 #[.agg (prbE p x),.agg #[.bool s,.int .i64 i]] w fun e w' => e = .returned (.tuple #[.int .i64 (prioM p (s,i)),.int .u64 (sklM p (s,i))]) ∧ Below w.heap.size w w' := by
 have HP := hide h
 have HB0 : Hid (∀ A B,Below w.heap.size w ((w.alloc A).alloc B)) := fun A B => ((Below.refl _ _).alloc (Nat.le_refl _) A).alloc (by simp) B
 obtain ⟨bb,hbb⟩ : ∃ b,thereM p (s,i) = b := ⟨_,rfl⟩
 have HT := hide hbb
 cases bb with
 | false =>
  obtain ⟨ta,tc,da,dc,va,vc,ja,jc,sa,sc,rfl⟩ := h.open
  rw [prio_no hbb,skl_none hbb]
  clear hbb h
  unfold prbE
  go_enter Try.func98,Try.ntmps98
  go_wp2_with (go_at_call 62;refine (rthere_any (HP.out.on (HB0.out _ _)) _ _).mono ?_;rintro e w1 ⟨rfl,k1⟩;rw [HT.out];obtain ⟨hc1,hf1⟩ := bcell k1;have K1 := hide k1;clear k1)
  go_ret2
  exact ⟨rfl,below_on (HB0.out _ _) K1.out⟩
 | true =>
  cases s with
  | true =>
   obtain ⟨k,rfl,hk⟩ := there_ship hbb
   obtain ⟨b,off,cc,x1,x2,xa,he,hb,hcs,_,_,_⟩ := shp_cells h.s hk
   obtain ⟨ta,tc,da,dc,va,vc,ja,jc,sa,sc,rfl⟩ := h.open
   simp only at he
   injection he with he1 he2 he3
   subst he1 he3
   clear he2
   have c8 : w.cell? ⟨b,off + k * 9 + 8,none⟩ = some (.int .i64 (p.ss.getD k hz).prio) := hcs 8 (by decide)
   have c7 : w.cell? ⟨b,off + k * 9 + 7,none⟩ = some (.int .u64 (p.ss.getD k hz).skills) := hcs 7 (by decide)
   rw [prio_ship HT.out,skl_ship HT.out]
   obtain ⟨ln,hln⟩ : ∃ q,p.ss.length = q := ⟨_,rfl⟩
   have hbd := SlV.bound h.s
   rw [hln] at hk HP hbd
   have i1 : (0 : Int) ≤ (k : Int) := by omega
   have i2 : (k : Int) < (ln : Int) := by omega
   unfold prbE
   rw [hln]
   clear hbb hcs h hln
   go_enter Try.func98,Try.ntmps98
   go_wp2_with (go_at_call 62;refine (rthere_any (HP.out.on (HB0.out _ _)) _ _).mono ?_;rintro e w1 ⟨rfl,k1⟩;rw [HT.out];obtain ⟨hc1,hf1⟩ := bcell k1;have d8 := (bcell (below_on (HB0.out _ _) k1)).1 b (off + k * 9 + 8) hb;rw [c8] at d8;have d7 := (bcell (below_on (HB0.out _ _) k1)).1 b (off + k * 9 + 7) hb;rw [c7] at d7;have K1 := hide k1;have e1 := hc1 w.heap.size 7 (by simp;omega);have e2 := hc1 (w.heap.size + 1) 1 (by simp);simp [go_sem] at e1 e2;clear k1)
   go_quiet (fail)
   go_wp2
   go_ret2
   exact ⟨rfl,below_drewN (below_on (HB0.out _ _) K1.out) _⟩
  | false =>
   obtain ⟨k,rfl,hk⟩ := there_job hbb
   obtain ⟨b,off,cc,x1,x2,xa,he,hb,hcs,_,_,_⟩ := job_cells h.j hk
   obtain ⟨ta,tc,da,dc,va,vc,ja,jc,sa,sc,rfl⟩ := h.open
   simp only at he
   injection he with he1 he2 he3
   subst he1 he3
   clear he2
   have c6 : w.cell? ⟨b,off + k * 7 + 6,none⟩ = some (.int .i64 (p.js.getD k jz).prio) := hcs 6 (by decide)
   have c5 : w.cell? ⟨b,off + k * 7 + 5,none⟩ = some (.int .u64 (p.js.getD k jz).skills) := hcs 5 (by decide)
   rw [prio_job HT.out,skl_job HT.out]
   obtain ⟨ln,hln⟩ : ∃ q,p.js.length = q := ⟨_,rfl⟩
   have hbd := SlV.bound h.j
   rw [hln] at hk HP hbd
   have i1 : (0 : Int) ≤ (k : Int) := by omega
   have i2 : (k : Int) < (ln : Int) := by omega
   unfold prbE
   rw [hln]
   clear hbb hcs h hln
   go_enter Try.func98,Try.ntmps98
   go_wp2_with (go_at_call 62;refine (rthere_any (HP.out.on (HB0.out _ _)) _ _).mono ?_;rintro e w1 ⟨rfl,k1⟩;rw [HT.out];obtain ⟨hc1,hf1⟩ := bcell k1;have d6 := (bcell (below_on (HB0.out _ _) k1)).1 b (off + k * 7 + 6) hb;rw [c6] at d6;have d5 := (bcell (below_on (HB0.out _ _) k1)).1 b (off + k * 7 + 5) hb;rw [c5] at d5;have K1 := hide k1;have e1 := hc1 w.heap.size 6 (by simp;omega);have e2 := hc1 (w.heap.size + 1) 1 (by simp);simp [go_sem] at e1 e2;clear k1)
   go_quiet (fail)
   go_wp2
   go_ret2
   exact ⟨rfl,below_drewN (below_on (HB0.out _ _) K1.out) _⟩
end Go.Proofs.Ytndbikoccdjafaa
namespace Go.Proofs.Ytndbikoccdjafaa
open Go.RowKit
def ofM (k i : Int) : (Bool × Int) × Bool := if k = 1 then ((false,i),true) else if k = 2 then ((true,i),true) else if k = 3 then ((true,i),true) else ((false,0),false)
def taskE (t : Bool × Int) : Value := .agg #[.bool t.1,.int .i64 t.2]
set_option maxRecDepth 100000 in
set_option maxHeartbeats 3200000 in
theorem of_any (w : World) (k i : Int) : Calls Try.prog 107 #[.agg #[.int .i64 k,.int .i64 i]] w fun e w' => e = .returned (.tuple #[taskE (ofM k i).1,.bool (ofM k i).2]) ∧ Below w.heap.size w w' := by
 have HB0 : Hid (∀ A B,Below w.heap.size w ((w.alloc A).alloc B)) := fun A B => ((Below.refl _ _).alloc (Nat.le_refl _) A).alloc (by simp) B
 unfold taskE ofM
 by_cases h1 : k = 1
 ·subst h1
  rw [if_pos rfl]
  go_enter Try.func107,Try.ntmps107
  go_wp2
  refine bodyPost_ret (v := (.tuple #[.agg #[.bool false,.int .i64 i],.bool true])) ?_ rfl ⟨rfl,(by repeat (first | exact HB0.out _ _ | (refine Below.setCell ?_ (by simp) _) | refine Below.drew ?_))⟩
  simp [results,Try.results107,go_sem]
 ·rw [if_neg h1]
  have e1 : (k == 1) = false := by simpa using h1
  by_cases h2 : k = 2
  ·subst h2
   rw [if_pos rfl]
   clear h1 e1
   go_enter Try.func107,Try.ntmps107
   go_wp2
   refine bodyPost_ret (v := (.tuple #[.agg #[.bool true,.int .i64 i],.bool true])) ?_ rfl ⟨rfl,(by repeat (first | exact HB0.out _ _ | (refine Below.setCell ?_ (by simp) _) | refine Below.drew ?_))⟩
   simp [results,Try.results107,go_sem]
  ·rw [if_neg h2]
   have e2 : (k == 2) = false := by simpa using h2
   by_cases h3 : k = 3
   ·subst h3
    rw [if_pos rfl]
    clear h1 e1 h2 e2
    go_enter Try.func107,Try.ntmps107
    go_wp2
    refine bodyPost_ret (v := (.tuple #[.agg #[.bool true,.int .i64 i],.bool true])) ?_ rfl ⟨rfl,(by repeat (first | exact HB0.out _ _ | (refine Below.setCell ?_ (by simp) _) | refine Below.drew ?_))⟩
    simp [results,Try.results107,go_sem]
   ·rw [if_neg h3]
    have e3 : (k == 3) = false := by simpa using h3
    go_enter Try.func107,Try.ntmps107
    go_wp2
    refine bodyPost_ret (v := (.tuple #[.agg #[.bool false,.int .i64 0],.bool false])) ?_ rfl ⟨rfl,(by repeat (first | exact HB0.out _ _ | (refine Below.setCell ?_ (by simp) _) | refine Below.drew ?_))⟩
    simp [results,Try.results107,go_sem]
set_option maxRecDepth 100000 in
set_option maxHeartbeats 3200000 in
theorem rof_any (w : World) (k i : Int) : Calls Try.prog 61 #[.agg #[.int .i64 k,.int .i64 i]] w fun e w' => e = .returned (.tuple #[taskE (ofM k i).1,.bool (ofM k i).2]) ∧ Below w.heap.size w w' := by
 have HB0 : Hid (∀ A B,Below w.heap.size w ((w.alloc A).alloc B)) := fun A B => ((Below.refl _ _).alloc (Nat.le_refl _) A).alloc (by simp) B
 unfold taskE ofM
 by_cases h1 : k = 1
 ·subst h1
  rw [if_pos rfl]
  go_enter Try.func61,Try.ntmps61
  go_wp2
  refine bodyPost_ret (v := (.tuple #[.agg #[.bool false,.int .i64 i],.bool true])) ?_ rfl ⟨rfl,(by repeat (first | exact HB0.out _ _ | (refine Below.setCell ?_ (by simp) _) | refine Below.drew ?_))⟩
  simp [results,Try.results61,go_sem]
 ·rw [if_neg h1]
  have e1 : (k == 1) = false := by simpa using h1
  by_cases h2 : k = 2
  ·subst h2
   rw [if_pos rfl]
   clear h1 e1
   go_enter Try.func61,Try.ntmps61
   go_wp2
   refine bodyPost_ret (v := (.tuple #[.agg #[.bool true,.int .i64 i],.bool true])) ?_ rfl ⟨rfl,(by repeat (first | exact HB0.out _ _ | (refine Below.setCell ?_ (by simp) _) | refine Below.drew ?_))⟩
   simp [results,Try.results61,go_sem]
  ·rw [if_neg h2]
   have e2 : (k == 2) = false := by simpa using h2
   by_cases h3 : k = 3
   ·subst h3
    rw [if_pos rfl]
    clear h1 e1 h2 e2
    go_enter Try.func61,Try.ntmps61
    go_wp2
    refine bodyPost_ret (v := (.tuple #[.agg #[.bool true,.int .i64 i],.bool true])) ?_ rfl ⟨rfl,(by repeat (first | exact HB0.out _ _ | (refine Below.setCell ?_ (by simp) _) | refine Below.drew ?_))⟩
    simp [results,Try.results61,go_sem]
   ·rw [if_neg h3]
    have e3 : (k == 3) = false := by simpa using h3
    go_enter Try.func61,Try.ntmps61
    go_wp2
    refine bodyPost_ret (v := (.tuple #[.agg #[.bool false,.int .i64 0],.bool false])) ?_ rfl ⟨rfl,(by repeat (first | exact HB0.out _ _ | (refine Below.setCell ?_ (by simp) _) | refine Below.drew ?_))⟩
    simp [results,Try.results61,go_sem]
end Go.Proofs.Ytndbikoccdjafaa
namespace Go.Proofs.Ytndbikoccdjafaa
open Go.RowKit
set_option maxRecDepth 100000 in
set_option maxHeartbeats 3200000 in
theorem stopOf_pick {w : World} {x : PrbS} {p : Prb} (h : PrbV w x p) {k : Nat} (hk : k < p.ss.length) : Calls Try.prog 113 #[.agg (prbE p x),.agg #[.int .i64 2,.int .i64 k]] w fun e w' => ∃ y,e = .returned (.agg #[.int .i64 (p.ss.getD k hz).pick.place,.int .i64 (p.ss.getD k hz).pick.serv,y]) ∧ WinsV w' y (p.ss.getD k hz).pick.wins ∧ Below w.heap.size w w' := by
 have HB0 : Hid (∀ A B C,Below w.heap.size w (((w.alloc A).alloc B).alloc C)) := fun A B C => (((Below.refl _ _).alloc (Nat.le_refl _) A).alloc (by simp) B).alloc (by simp;omega) C
 obtain ⟨b,off,cc,x1,x2,xa,he,hb,hcs,hw1,hw2,_⟩ := shp_cells h.s hk
 obtain ⟨ya,yc,rfl⟩ := WinsV.shape hw1
 have HW := hide hw1
 obtain ⟨ta,tc,da,dc,va,vc,ja,jc,sa,sc,rfl⟩ := h.open
 simp only at he
 injection he with he1 he2 he3
 subst he1 he3
 clear he2
 have c0 : w.cell? ⟨b,off + k * 9,none⟩ = some (.int .i64 (p.ss.getD k hz).pick.place) := hcs 0 (by decide)
 have c1 : w.cell? ⟨b,off + k * 9 + 1,none⟩ = some (.int .i64 (p.ss.getD k hz).pick.serv) := hcs 1 (by decide)
 have c2 : w.cell? ⟨b,off + k * 9 + 2,none⟩ = some (.slice ya (p.ss.getD k hz).pick.wins.length yc) := hcs 2 (by decide)
 obtain ⟨ln,hln⟩ : ∃ q,p.ss.length = q := ⟨_,rfl⟩
 have hbd := SlV.bound h.s
 rw [hln] at hk hbd
 have i1 : (0 : Int) ≤ (k : Int) := by omega
 have i2 : (k : Int) < (ln : Int) := by omega
 generalize (p.ss.getD k hz).pick = st at *
 have n1 : ¬ b = w.heap.size := by omega
 have n2 : ¬ b = w.heap.size + 1 := by omega
 have n3 : ¬ b = w.heap.size + 1 + 1 := by omega
 have n4 : ¬ w.heap.size = b := by omega
 have n5 : b < w.heap.size + 1 := by omega
 have n6 : b < w.heap.size + 1 + 1 := by omega
 unfold prbE
 rw [hln]
 clear hcs h hln hw1 hw2
 go_enter Try.func113,Try.ntmps113
 go_wp2
 refine bodyPost_ret (v := .agg #[.int .i64 st.place,.int .i64 st.serv,.slice ya st.wins.length yc]) ?_ rfl ⟨_,rfl,HW.out.on (HB0.out _ _ _),HB0.out _ _ _⟩
 simp [results,Try.results113,go_sem]
set_option maxRecDepth 100000 in
set_option maxHeartbeats 3200000 in
theorem stopOf_deli {w : World} {x : PrbS} {p : Prb} (h : PrbV w x p) {k : Nat} (hk : k < p.ss.length) : Calls Try.prog 113 #[.agg (prbE p x),.agg #[.int .i64 3,.int .i64 k]] w fun e w' => ∃ y,e = .returned (.agg #[.int .i64 (p.ss.getD k hz).deli.place,.int .i64 (p.ss.getD k hz).deli.serv,y]) ∧ WinsV w' y (p.ss.getD k hz).deli.wins ∧ Below w.heap.size w w' := by
 have HB0 : Hid (∀ A B C,Below w.heap.size w (((w.alloc A).alloc B).alloc C)) := fun A B C => (((Below.refl _ _).alloc (Nat.le_refl _) A).alloc (by simp) B).alloc (by simp;omega) C
 obtain ⟨b,off,cc,x1,x2,xa,he,hb,hcs,hw1,hw2,_⟩ := shp_cells h.s hk
 obtain ⟨ya,yc,rfl⟩ := WinsV.shape hw2
 have HW := hide hw2
 obtain ⟨ta,tc,da,dc,va,vc,ja,jc,sa,sc,rfl⟩ := h.open
 simp only at he
 injection he with he1 he2 he3
 subst he1 he3
 clear he2
 have c0 : w.cell? ⟨b,off + k * 9 + 3,none⟩ = some (.int .i64 (p.ss.getD k hz).deli.place) := hcs 3 (by decide)
 have c1 : w.cell? ⟨b,off + k * 9 + 4,none⟩ = some (.int .i64 (p.ss.getD k hz).deli.serv) := hcs 4 (by decide)
 have c2 : w.cell? ⟨b,off + k * 9 + 5,none⟩ = some (.slice ya (p.ss.getD k hz).deli.wins.length yc) := hcs 5 (by decide)
 obtain ⟨ln,hln⟩ : ∃ q,p.ss.length = q := ⟨_,rfl⟩
 have hbd := SlV.bound h.s
 rw [hln] at hk hbd
 have i1 : (0 : Int) ≤ (k : Int) := by omega
 have i2 : (k : Int) < (ln : Int) := by omega
 generalize (p.ss.getD k hz).deli = st at *
 have n1 : ¬ b = w.heap.size := by omega
 have n2 : ¬ b = w.heap.size + 1 := by omega
 have n3 : ¬ b = w.heap.size + 1 + 1 := by omega
 have n4 : ¬ w.heap.size = b := by omega
 have n5 : b < w.heap.size + 1 := by omega
 have n6 : b < w.heap.size + 1 + 1 := by omega
 unfold prbE
 rw [hln]
 clear hcs h hln hw1 hw2
 go_enter Try.func113,Try.ntmps113
 go_wp2
 refine bodyPost_ret (v := .agg #[.int .i64 st.place,.int .i64 st.serv,.slice ya st.wins.length yc]) ?_ rfl ⟨_,rfl,HW.out.on (HB0.out _ _ _),HB0.out _ _ _⟩
 simp [results,Try.results113,go_sem]
set_option maxRecDepth 100000 in
set_option maxHeartbeats 3200000 in
theorem stopOf_job {w : World} {x : PrbS} {p : Prb} (h : PrbV w x p) {k : Nat} (hk : k < p.js.length) : Calls Try.prog 113 #[.agg (prbE p x),.agg #[.int .i64 1,.int .i64 k]] w fun e w' => ∃ y,e = .returned (.agg #[.int .i64 (p.js.getD k jz).stop.place,.int .i64 (p.js.getD k jz).stop.serv,y]) ∧ WinsV w' y (p.js.getD k jz).stop.wins ∧ Below w.heap.size w w' := by
 have HB0 : Hid (∀ A B C,Below w.heap.size w (((w.alloc A).alloc B).alloc C)) := fun A B C => (((Below.refl _ _).alloc (Nat.le_refl _) A).alloc (by simp) B).alloc (by simp;omega) C
 obtain ⟨b,off,cc,x1,x2,xa,he,hb,hcs,hw1,hw2,_⟩ := job_cells h.j hk
 obtain ⟨ya,yc,rfl⟩ := WinsV.shape hw1
 have HW := hide hw1
 obtain ⟨ta,tc,da,dc,va,vc,ja,jc,sa,sc,rfl⟩ := h.open
 simp only at he
 injection he with he1 he2 he3
 subst he1 he3
 clear he2
 have c0 : w.cell? ⟨b,off + k * 7,none⟩ = some (.int .i64 (p.js.getD k jz).stop.place) := hcs 0 (by decide)
 have c1 : w.cell? ⟨b,off + k * 7 + 1,none⟩ = some (.int .i64 (p.js.getD k jz).stop.serv) := hcs 1 (by decide)
 have c2 : w.cell? ⟨b,off + k * 7 + 2,none⟩ = some (.slice ya (p.js.getD k jz).stop.wins.length yc) := hcs 2 (by decide)
 obtain ⟨ln,hln⟩ : ∃ q,p.js.length = q := ⟨_,rfl⟩
 have hbd := SlV.bound h.j
 rw [hln] at hk hbd
 have i1 : (0 : Int) ≤ (k : Int) := by omega
 have i2 : (k : Int) < (ln : Int) := by omega
 generalize (p.js.getD k jz).stop = st at *
 have n1 : ¬ b = w.heap.size := by omega
 have n2 : ¬ b = w.heap.size + 1 := by omega
 have n3 : ¬ b = w.heap.size + 1 + 1 := by omega
 have n4 : ¬ w.heap.size = b := by omega
 have n5 : b < w.heap.size + 1 := by omega
 have n6 : b < w.heap.size + 1 + 1 := by omega
 unfold prbE
 rw [hln]
 clear hcs h hln hw1 hw2
 go_enter Try.func113,Try.ntmps113
 go_wp2
 refine bodyPost_ret (v := .agg #[.int .i64 st.place,.int .i64 st.serv,.slice ya st.wins.length yc]) ?_ rfl ⟨_,rfl,HW.out.on (HB0.out _ _ _),HB0.out _ _ _⟩
 simp [results,Try.results113,go_sem]
end Go.Proofs.Ytndbikoccdjafaa
