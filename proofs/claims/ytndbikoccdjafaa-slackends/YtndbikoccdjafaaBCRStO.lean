/-
  What the call of the document's Stop does: the windows that it answers lie where they lay before.
-/
import Derived.Test.YtndbikoccdjafaaBCStpAG
namespace Go.Proofs.Ytndbikoccdjafaa
open Go.RowKit
set_option maxRecDepth 100000 in
set_option maxHeartbeats 6400000 in
theorem rstop18_pickO {w0 w : World} {x : PrbS} {p : Prb} (h0 : PrbV w0 x p) (f : Below w0.heap.size w0 w) {k : Nat} (hk : k < p.ss.length) : Calls Try.prog 38 #[.agg (prbE p x),.agg #[.int .i64 2,.int .i64 k]] w fun e w' => ∃ y,e = .returned (.tuple #[.agg #[.int .i64 (p.ss.getD k hz).pick.place,.int .i64 (p.ss.getD k hz).pick.serv,y],.bool true]) ∧ WinsV w0 y (p.ss.getD k hz).pick.wins ∧ Below w.heap.size w w' := by
 have h := PrbV.on h0 f
 have hfs := f.size
 have HB0 : Hid (∀ A B C,Below w.heap.size w (((w.alloc A).alloc B).alloc C)) := fun A B C => (((Below.refl _ _).alloc (Nat.le_refl _) A).alloc (by simp) B).alloc (by simp;omega) C
 have HP := hide h
 have HO := hide (show ofM 2 k = ((true,(k : Int)),true) from rfl)
 have HT := hide (show thereM p (true,(k : Int)) = true from upB_iff.2 (by omega))
 obtain ⟨b,off,cc,x1,x2,xa,he,hb,hcs,hw1,hw2,_⟩ := shp_cells h0.s hk
 obtain ⟨ya,yc,rfl⟩ := WinsV.shape hw1
 have HW := hide hw1
 obtain ⟨ta,tc,da,dc,va,vc,ja,jc,sa,sc,rfl⟩ := h.open
 simp only at he
 injection he with he1 he2 he3
 subst he1 he3
 clear he2
 have c0 : w.cell? ⟨b,off + k * 9,none⟩ = some (.int .i64 (p.ss.getD k hz).pick.place) := ((bcell f).1 _ _ hb).trans (hcs 0 (by decide))
 have c1 : w.cell? ⟨b,off + k * 9 + 1,none⟩ = some (.int .i64 (p.ss.getD k hz).pick.serv) := ((bcell f).1 _ _ hb).trans (hcs 1 (by decide))
 have c2 : w.cell? ⟨b,off + k * 9 + 2,none⟩ = some (.slice ya (p.ss.getD k hz).pick.wins.length yc) := ((bcell f).1 _ _ hb).trans (hcs 2 (by decide))
 obtain ⟨ln,hln⟩ : ∃ q,p.ss.length = q := ⟨_,rfl⟩
 have hbd := SlV.bound h.s
 rw [hln] at hk hbd HP
 have i1 : (0 : Int) ≤ (k : Int) := by omega
 have i2 : (k : Int) < (ln : Int) := by omega
 generalize (p.ss.getD k hz).pick = st at *
 have n1 : ¬ b = w.heap.size := by omega
 have n2 : ¬ b = w.heap.size + 1 := by omega
 have n3 : ¬ b = w.heap.size + 1 + 1 := by omega
 have n4 : ¬ w.heap.size + 1 + 1 = b := by omega
 unfold prbE
 rw [hln]
 clear hcs h hln hw1 hw2
 replace hb := Nat.lt_of_lt_of_le hb hfs
 clear hfs h0 f
 go_enter Try.func38,Try.ntmps38
 go_wp2_with (first | (go_at_call 62;refine (rthere_any (HP.out.on (below_on (HB0.out _ _ _) (B1.out.alloc B1.out.size _))) _ _).mono ?_;rintro e w2 ⟨rfl,k2⟩;rw [HT.out];have B2 := hide (below_on (B1.out.alloc B1.out.size _) k2);obtain ⟨hc2,hf2⟩ := bcell B2.out;have s2 : w.heap.size + 1 + 1 < w2.heap.size := (by have := B2.out.size;simp at this;omega);have sa2 : ¬ w.heap.size + 1 + 1 = w2.heap.size := (by omega);have sb2 : ¬ w.heap.size + 1 = w2.heap.size := (by omega);have sc2 : ¬ w.heap.size = w2.heap.size := (by omega);have sd2 : w.heap.size + 1 < w2.heap.size := (by omega);have se2 : w.heap.size < w2.heap.size := (by omega);have u20 : w2.cell? ⟨w.heap.size + 1 + 1,0,none⟩ = some (.int .i64 0) := (by rw [hc2 _ _ (by first | (simp;done) | (simp;omega))];simp [go_sem]);have u21 : w2.cell? ⟨w.heap.size + 1 + 1,1,none⟩ = some (.int .i64 0) := (by rw [hc2 _ _ (by first | (simp;done) | (simp;omega))];simp [go_sem]);have u22 : w2.cell? ⟨w.heap.size + 1 + 1,2,none⟩ = some (.slice none 0 0) := (by rw [hc2 _ _ (by first | (simp;done) | (simp;omega))];simp [go_sem]);have uf2 : ∀ t,w2.frozen? ⟨w.heap.size + 1 + 1,t,none⟩ = false := fun t => (by rw [hf2 _ _ (by first | (simp;done) | (simp;omega))];simp [go_sem]);have x20 : w2.cell? ⟨w.heap.size,0,none⟩ = some (.int .i64 p.dims) := (by rw [hc2 _ _ (by first | (simp;done) | (simp;omega))];simp [go_sem]);have x21 : w2.cell? ⟨w.heap.size,1,none⟩ = some (.int .i64 p.time.n) := (by rw [hc2 _ _ (by first | (simp;done) | (simp;omega))];simp [go_sem]);have x22 : w2.cell? ⟨w.heap.size,2,none⟩ = some (.slice ta p.time.cells.length tc) := (by rw [hc2 _ _ (by first | (simp;done) | (simp;omega))];simp [go_sem]);have x23 : w2.cell? ⟨w.heap.size,3,none⟩ = some (.int .i64 p.dist.n) := (by rw [hc2 _ _ (by first | (simp;done) | (simp;omega))];simp [go_sem]);have x24 : w2.cell? ⟨w.heap.size,4,none⟩ = some (.slice da p.dist.cells.length dc) := (by rw [hc2 _ _ (by first | (simp;done) | (simp;omega))];simp [go_sem]);have x25 : w2.cell? ⟨w.heap.size,5,none⟩ = some (.slice va p.vs.length vc) := (by rw [hc2 _ _ (by first | (simp;done) | (simp;omega))];simp [go_sem]);have x26 : w2.cell? ⟨w.heap.size,6,none⟩ = some (.slice ja p.js.length jc) := (by rw [hc2 _ _ (by first | (simp;done) | (simp;omega))];simp [go_sem]);have x27 : w2.cell? ⟨w.heap.size,7,none⟩ = some (.slice (some ⟨b,off,none⟩) ln sc) := (by rw [hc2 _ _ (by first | (simp;done) | (simp;omega))];simp [go_sem]);have y20 : w2.cell? ⟨w.heap.size + 1,0,none⟩ = some (.int .i64 2) := (by rw [hc2 _ _ (by first | (simp;done) | (simp;omega))];simp [go_sem]);have y21 : w2.cell? ⟨w.heap.size + 1,1,none⟩ = some (.int .i64 k) := (by rw [hc2 _ _ (by first | (simp;done) | (simp;omega))];simp [go_sem]);have z0 := (((below_on (HB0.out _ _ _) B2.out).cell (p := ⟨b,off + k * 9,none⟩) hb).trans c0);have z1 := (((below_on (HB0.out _ _ _) B2.out).cell (p := ⟨b,off + k * 9 + 1,none⟩) hb).trans c1);have z2 := (((below_on (HB0.out _ _ _) B2.out).cell (p := ⟨b,off + k * 9 + 2,none⟩) hb).trans c2);have sb9 : b < w2.heap.size := (by omega);clear k2 hc2 hf2) | (go_at_call 61;refine (rof_any _ _ _).mono ?_;rintro e w1 ⟨rfl,k1⟩;rw [HO.out];simp only [taskE];have B1 := hide k1;obtain ⟨hc1,hf1⟩ := bcell k1;have s1 : w.heap.size + 1 + 1 < w1.heap.size := (by have := B1.out.size;simp at this;omega);have sa1 : ¬ w.heap.size + 1 + 1 = w1.heap.size := (by omega);have sb1 : ¬ w.heap.size + 1 = w1.heap.size := (by omega);have sc1 : ¬ w.heap.size = w1.heap.size := (by omega);have sd1 : w.heap.size + 1 < w1.heap.size := (by omega);have se1 : w.heap.size < w1.heap.size := (by omega);have u10 : w1.cell? ⟨w.heap.size + 1 + 1,0,none⟩ = some (.int .i64 0) := (by rw [hc1 _ _ (by first | (simp;done) | (simp;omega))];simp [go_sem]);have u11 : w1.cell? ⟨w.heap.size + 1 + 1,1,none⟩ = some (.int .i64 0) := (by rw [hc1 _ _ (by first | (simp;done) | (simp;omega))];simp [go_sem]);have u12 : w1.cell? ⟨w.heap.size + 1 + 1,2,none⟩ = some (.slice none 0 0) := (by rw [hc1 _ _ (by first | (simp;done) | (simp;omega))];simp [go_sem]);have uf1 : ∀ t,w1.frozen? ⟨w.heap.size + 1 + 1,t,none⟩ = false := fun t => (by rw [hf1 _ _ (by first | (simp;done) | (simp;omega))];simp [go_sem]);have x10 : w1.cell? ⟨w.heap.size,0,none⟩ = some (.int .i64 p.dims) := (by rw [hc1 _ _ (by first | (simp;done) | (simp;omega))];simp [go_sem]);have x11 : w1.cell? ⟨w.heap.size,1,none⟩ = some (.int .i64 p.time.n) := (by rw [hc1 _ _ (by first | (simp;done) | (simp;omega))];simp [go_sem]);have x12 : w1.cell? ⟨w.heap.size,2,none⟩ = some (.slice ta p.time.cells.length tc) := (by rw [hc1 _ _ (by first | (simp;done) | (simp;omega))];simp [go_sem]);have x13 : w1.cell? ⟨w.heap.size,3,none⟩ = some (.int .i64 p.dist.n) := (by rw [hc1 _ _ (by first | (simp;done) | (simp;omega))];simp [go_sem]);have x14 : w1.cell? ⟨w.heap.size,4,none⟩ = some (.slice da p.dist.cells.length dc) := (by rw [hc1 _ _ (by first | (simp;done) | (simp;omega))];simp [go_sem]);have x15 : w1.cell? ⟨w.heap.size,5,none⟩ = some (.slice va p.vs.length vc) := (by rw [hc1 _ _ (by first | (simp;done) | (simp;omega))];simp [go_sem]);have x16 : w1.cell? ⟨w.heap.size,6,none⟩ = some (.slice ja p.js.length jc) := (by rw [hc1 _ _ (by first | (simp;done) | (simp;omega))];simp [go_sem]);have x17 : w1.cell? ⟨w.heap.size,7,none⟩ = some (.slice (some ⟨b,off,none⟩) ln sc) := (by rw [hc1 _ _ (by first | (simp;done) | (simp;omega))];simp [go_sem]);have y10 : w1.cell? ⟨w.heap.size + 1,0,none⟩ = some (.int .i64 2) := (by rw [hc1 _ _ (by first | (simp;done) | (simp;omega))];simp [go_sem]);have y11 : w1.cell? ⟨w.heap.size + 1,1,none⟩ = some (.int .i64 k) := (by rw [hc1 _ _ (by first | (simp;done) | (simp;omega))];simp [go_sem]);clear k1 hc1 hf1))
 refine bodyPost_ret (v := .tuple #[.agg #[.int .i64 st.place,.int .i64 st.serv,.slice ya st.wins.length yc],.bool true]) ?_ rfl ⟨_,rfl,HW.out,(by repeat (first | exact below_on (HB0.out _ _ _) B2.out | (refine Below.setCell ?_ (by simp;omega) _) | refine Below.drew ?_ | (refine Below.alloc ?_ (by have := B2.out.size;simp at this ⊢;omega) _)))⟩
 simp [results,Try.results38,go_sem, *]
set_option maxRecDepth 100000 in
set_option maxHeartbeats 6400000 in
theorem rstop18_deliO {w0 w : World} {x : PrbS} {p : Prb} (h0 : PrbV w0 x p) (f : Below w0.heap.size w0 w) {k : Nat} (hk : k < p.ss.length) : Calls Try.prog 38 #[.agg (prbE p x),.agg #[.int .i64 3,.int .i64 k]] w fun e w' => ∃ y,e = .returned (.tuple #[.agg #[.int .i64 (p.ss.getD k hz).deli.place,.int .i64 (p.ss.getD k hz).deli.serv,y],.bool true]) ∧ WinsV w0 y (p.ss.getD k hz).deli.wins ∧ Below w.heap.size w w' := by
 have h := PrbV.on h0 f
 have hfs := f.size
 have HB0 : Hid (∀ A B C,Below w.heap.size w (((w.alloc A).alloc B).alloc C)) := fun A B C => (((Below.refl _ _).alloc (Nat.le_refl _) A).alloc (by simp) B).alloc (by simp;omega) C
 have HP := hide h
 have HO := hide (show ofM 3 k = ((true,(k : Int)),true) from rfl)
 have HT := hide (show thereM p (true,(k : Int)) = true from upB_iff.2 (by omega))
 obtain ⟨b,off,cc,x1,x2,xa,he,hb,hcs,hw1,hw2,_⟩ := shp_cells h0.s hk
 obtain ⟨ya,yc,rfl⟩ := WinsV.shape hw2
 have HW := hide hw2
 obtain ⟨ta,tc,da,dc,va,vc,ja,jc,sa,sc,rfl⟩ := h.open
 simp only at he
 injection he with he1 he2 he3
 subst he1 he3
 clear he2
 have c0 : w.cell? ⟨b,off + k * 9 + 3,none⟩ = some (.int .i64 (p.ss.getD k hz).deli.place) := ((bcell f).1 _ _ hb).trans (hcs 3 (by decide))
 have c1 : w.cell? ⟨b,off + k * 9 + 4,none⟩ = some (.int .i64 (p.ss.getD k hz).deli.serv) := ((bcell f).1 _ _ hb).trans (hcs 4 (by decide))
 have c2 : w.cell? ⟨b,off + k * 9 + 5,none⟩ = some (.slice ya (p.ss.getD k hz).deli.wins.length yc) := ((bcell f).1 _ _ hb).trans (hcs 5 (by decide))
 obtain ⟨ln,hln⟩ : ∃ q,p.ss.length = q := ⟨_,rfl⟩
 have hbd := SlV.bound h.s
 rw [hln] at hk hbd HP
 have i1 : (0 : Int) ≤ (k : Int) := by omega
 have i2 : (k : Int) < (ln : Int) := by omega
 generalize (p.ss.getD k hz).deli = st at *
 have n1 : ¬ b = w.heap.size := by omega
 have n2 : ¬ b = w.heap.size + 1 := by omega
 have n3 : ¬ b = w.heap.size + 1 + 1 := by omega
 have n4 : ¬ w.heap.size + 1 + 1 = b := by omega
 unfold prbE
 rw [hln]
 clear hcs h hln hw1 hw2
 replace hb := Nat.lt_of_lt_of_le hb hfs
 clear hfs h0 f
 go_enter Try.func38,Try.ntmps38
 go_wp2_with (first | (go_at_call 62;refine (rthere_any (HP.out.on (below_on (HB0.out _ _ _) (B1.out.alloc B1.out.size _))) _ _).mono ?_;rintro e w2 ⟨rfl,k2⟩;rw [HT.out];have B2 := hide (below_on (B1.out.alloc B1.out.size _) k2);obtain ⟨hc2,hf2⟩ := bcell B2.out;have s2 : w.heap.size + 1 + 1 < w2.heap.size := (by have := B2.out.size;simp at this;omega);have sa2 : ¬ w.heap.size + 1 + 1 = w2.heap.size := (by omega);have sb2 : ¬ w.heap.size + 1 = w2.heap.size := (by omega);have sc2 : ¬ w.heap.size = w2.heap.size := (by omega);have sd2 : w.heap.size + 1 < w2.heap.size := (by omega);have se2 : w.heap.size < w2.heap.size := (by omega);have u20 : w2.cell? ⟨w.heap.size + 1 + 1,0,none⟩ = some (.int .i64 0) := (by rw [hc2 _ _ (by first | (simp;done) | (simp;omega))];simp [go_sem]);have u21 : w2.cell? ⟨w.heap.size + 1 + 1,1,none⟩ = some (.int .i64 0) := (by rw [hc2 _ _ (by first | (simp;done) | (simp;omega))];simp [go_sem]);have u22 : w2.cell? ⟨w.heap.size + 1 + 1,2,none⟩ = some (.slice none 0 0) := (by rw [hc2 _ _ (by first | (simp;done) | (simp;omega))];simp [go_sem]);have uf2 : ∀ t,w2.frozen? ⟨w.heap.size + 1 + 1,t,none⟩ = false := fun t => (by rw [hf2 _ _ (by first | (simp;done) | (simp;omega))];simp [go_sem]);have x20 : w2.cell? ⟨w.heap.size,0,none⟩ = some (.int .i64 p.dims) := (by rw [hc2 _ _ (by first | (simp;done) | (simp;omega))];simp [go_sem]);have x21 : w2.cell? ⟨w.heap.size,1,none⟩ = some (.int .i64 p.time.n) := (by rw [hc2 _ _ (by first | (simp;done) | (simp;omega))];simp [go_sem]);have x22 : w2.cell? ⟨w.heap.size,2,none⟩ = some (.slice ta p.time.cells.length tc) := (by rw [hc2 _ _ (by first | (simp;done) | (simp;omega))];simp [go_sem]);have x23 : w2.cell? ⟨w.heap.size,3,none⟩ = some (.int .i64 p.dist.n) := (by rw [hc2 _ _ (by first | (simp;done) | (simp;omega))];simp [go_sem]);have x24 : w2.cell? ⟨w.heap.size,4,none⟩ = some (.slice da p.dist.cells.length dc) := (by rw [hc2 _ _ (by first | (simp;done) | (simp;omega))];simp [go_sem]);have x25 : w2.cell? ⟨w.heap.size,5,none⟩ = some (.slice va p.vs.length vc) := (by rw [hc2 _ _ (by first | (simp;done) | (simp;omega))];simp [go_sem]);have x26 : w2.cell? ⟨w.heap.size,6,none⟩ = some (.slice ja p.js.length jc) := (by rw [hc2 _ _ (by first | (simp;done) | (simp;omega))];simp [go_sem]);have x27 : w2.cell? ⟨w.heap.size,7,none⟩ = some (.slice (some ⟨b,off,none⟩) ln sc) := (by rw [hc2 _ _ (by first | (simp;done) | (simp;omega))];simp [go_sem]);have y20 : w2.cell? ⟨w.heap.size + 1,0,none⟩ = some (.int .i64 3) := (by rw [hc2 _ _ (by first | (simp;done) | (simp;omega))];simp [go_sem]);have y21 : w2.cell? ⟨w.heap.size + 1,1,none⟩ = some (.int .i64 k) := (by rw [hc2 _ _ (by first | (simp;done) | (simp;omega))];simp [go_sem]);have z0 := (((below_on (HB0.out _ _ _) B2.out).cell (p := ⟨b,off + k * 9 + 3,none⟩) hb).trans c0);have z1 := (((below_on (HB0.out _ _ _) B2.out).cell (p := ⟨b,off + k * 9 + 4,none⟩) hb).trans c1);have z2 := (((below_on (HB0.out _ _ _) B2.out).cell (p := ⟨b,off + k * 9 + 5,none⟩) hb).trans c2);have sb9 : b < w2.heap.size := (by omega);clear k2 hc2 hf2) | (go_at_call 61;refine (rof_any _ _ _).mono ?_;rintro e w1 ⟨rfl,k1⟩;rw [HO.out];simp only [taskE];have B1 := hide k1;obtain ⟨hc1,hf1⟩ := bcell k1;have s1 : w.heap.size + 1 + 1 < w1.heap.size := (by have := B1.out.size;simp at this;omega);have sa1 : ¬ w.heap.size + 1 + 1 = w1.heap.size := (by omega);have sb1 : ¬ w.heap.size + 1 = w1.heap.size := (by omega);have sc1 : ¬ w.heap.size = w1.heap.size := (by omega);have sd1 : w.heap.size + 1 < w1.heap.size := (by omega);have se1 : w.heap.size < w1.heap.size := (by omega);have u10 : w1.cell? ⟨w.heap.size + 1 + 1,0,none⟩ = some (.int .i64 0) := (by rw [hc1 _ _ (by first | (simp;done) | (simp;omega))];simp [go_sem]);have u11 : w1.cell? ⟨w.heap.size + 1 + 1,1,none⟩ = some (.int .i64 0) := (by rw [hc1 _ _ (by first | (simp;done) | (simp;omega))];simp [go_sem]);have u12 : w1.cell? ⟨w.heap.size + 1 + 1,2,none⟩ = some (.slice none 0 0) := (by rw [hc1 _ _ (by first | (simp;done) | (simp;omega))];simp [go_sem]);have uf1 : ∀ t,w1.frozen? ⟨w.heap.size + 1 + 1,t,none⟩ = false := fun t => (by rw [hf1 _ _ (by first | (simp;done) | (simp;omega))];simp [go_sem]);have x10 : w1.cell? ⟨w.heap.size,0,none⟩ = some (.int .i64 p.dims) := (by rw [hc1 _ _ (by first | (simp;done) | (simp;omega))];simp [go_sem]);have x11 : w1.cell? ⟨w.heap.size,1,none⟩ = some (.int .i64 p.time.n) := (by rw [hc1 _ _ (by first | (simp;done) | (simp;omega))];simp [go_sem]);have x12 : w1.cell? ⟨w.heap.size,2,none⟩ = some (.slice ta p.time.cells.length tc) := (by rw [hc1 _ _ (by first | (simp;done) | (simp;omega))];simp [go_sem]);have x13 : w1.cell? ⟨w.heap.size,3,none⟩ = some (.int .i64 p.dist.n) := (by rw [hc1 _ _ (by first | (simp;done) | (simp;omega))];simp [go_sem]);have x14 : w1.cell? ⟨w.heap.size,4,none⟩ = some (.slice da p.dist.cells.length dc) := (by rw [hc1 _ _ (by first | (simp;done) | (simp;omega))];simp [go_sem]);have x15 : w1.cell? ⟨w.heap.size,5,none⟩ = some (.slice va p.vs.length vc) := (by rw [hc1 _ _ (by first | (simp;done) | (simp;omega))];simp [go_sem]);have x16 : w1.cell? ⟨w.heap.size,6,none⟩ = some (.slice ja p.js.length jc) := (by rw [hc1 _ _ (by first | (simp;done) | (simp;omega))];simp [go_sem]);have x17 : w1.cell? ⟨w.heap.size,7,none⟩ = some (.slice (some ⟨b,off,none⟩) ln sc) := (by rw [hc1 _ _ (by first | (simp;done) | (simp;omega))];simp [go_sem]);have y10 : w1.cell? ⟨w.heap.size + 1,0,none⟩ = some (.int .i64 3) := (by rw [hc1 _ _ (by first | (simp;done) | (simp;omega))];simp [go_sem]);have y11 : w1.cell? ⟨w.heap.size + 1,1,none⟩ = some (.int .i64 k) := (by rw [hc1 _ _ (by first | (simp;done) | (simp;omega))];simp [go_sem]);clear k1 hc1 hf1))
 refine bodyPost_ret (v := .tuple #[.agg #[.int .i64 st.place,.int .i64 st.serv,.slice ya st.wins.length yc],.bool true]) ?_ rfl ⟨_,rfl,HW.out,(by repeat (first | exact below_on (HB0.out _ _ _) B2.out | (refine Below.setCell ?_ (by simp;omega) _) | refine Below.drew ?_ | (refine Below.alloc ?_ (by have := B2.out.size;simp at this ⊢;omega) _)))⟩
 simp [results,Try.results38,go_sem, *]
set_option maxRecDepth 100000 in
set_option maxHeartbeats 6400000 in
theorem rstop18_jobO {w0 w : World} {x : PrbS} {p : Prb} (h0 : PrbV w0 x p) (f : Below w0.heap.size w0 w) {k : Nat} (hk : k < p.js.length) : Calls Try.prog 38 #[.agg (prbE p x),.agg #[.int .i64 1,.int .i64 k]] w fun e w' => ∃ y,e = .returned (.tuple #[.agg #[.int .i64 (p.js.getD k jz).stop.place,.int .i64 (p.js.getD k jz).stop.serv,y],.bool true]) ∧ WinsV w0 y (p.js.getD k jz).stop.wins ∧ Below w.heap.size w w' := by
 have h := PrbV.on h0 f
 have hfs := f.size
 have HB0 : Hid (∀ A B C,Below w.heap.size w (((w.alloc A).alloc B).alloc C)) := fun A B C => (((Below.refl _ _).alloc (Nat.le_refl _) A).alloc (by simp) B).alloc (by simp;omega) C
 have HP := hide h
 have HO := hide (show ofM 1 k = ((false,(k : Int)),true) from rfl)
 have HT := hide (show thereM p (false,(k : Int)) = true from upB_iff.2 (by omega))
 obtain ⟨b,off,cc,x1,x2,xa,he,hb,hcs,hw1,hw2,_⟩ := job_cells h0.j hk
 obtain ⟨ya,yc,rfl⟩ := WinsV.shape hw1
 have HW := hide hw1
 obtain ⟨ta,tc,da,dc,va,vc,ja,jc,sa,sc,rfl⟩ := h.open
 simp only at he
 injection he with he1 he2 he3
 subst he1 he3
 clear he2
 have c0 : w.cell? ⟨b,off + k * 7,none⟩ = some (.int .i64 (p.js.getD k jz).stop.place) := ((bcell f).1 _ _ hb).trans (hcs 0 (by decide))
 have c1 : w.cell? ⟨b,off + k * 7 + 1,none⟩ = some (.int .i64 (p.js.getD k jz).stop.serv) := ((bcell f).1 _ _ hb).trans (hcs 1 (by decide))
 have c2 : w.cell? ⟨b,off + k * 7 + 2,none⟩ = some (.slice ya (p.js.getD k jz).stop.wins.length yc) := ((bcell f).1 _ _ hb).trans (hcs 2 (by decide))
 obtain ⟨ln,hln⟩ : ∃ q,p.js.length = q := ⟨_,rfl⟩
 have hbd := SlV.bound h.j
 rw [hln] at hk hbd HP
 have i1 : (0 : Int) ≤ (k : Int) := by omega
 have i2 : (k : Int) < (ln : Int) := by omega
 generalize (p.js.getD k jz).stop = st at *
 have n1 : ¬ b = w.heap.size := by omega
 have n2 : ¬ b = w.heap.size + 1 := by omega
 have n3 : ¬ b = w.heap.size + 1 + 1 := by omega
 have n4 : ¬ w.heap.size + 1 + 1 = b := by omega
 unfold prbE
 rw [hln]
 clear hcs h hln hw1 hw2
 replace hb := Nat.lt_of_lt_of_le hb hfs
 clear hfs h0 f
 go_enter Try.func38,Try.ntmps38
 go_wp2_with (first | (go_at_call 62;refine (rthere_any (HP.out.on (below_on (HB0.out _ _ _) (B1.out.alloc B1.out.size _))) _ _).mono ?_;rintro e w2 ⟨rfl,k2⟩;rw [HT.out];have B2 := hide (below_on (B1.out.alloc B1.out.size _) k2);obtain ⟨hc2,hf2⟩ := bcell B2.out;have s2 : w.heap.size + 1 + 1 < w2.heap.size := (by have := B2.out.size;simp at this;omega);have sa2 : ¬ w.heap.size + 1 + 1 = w2.heap.size := (by omega);have sb2 : ¬ w.heap.size + 1 = w2.heap.size := (by omega);have sc2 : ¬ w.heap.size = w2.heap.size := (by omega);have sd2 : w.heap.size + 1 < w2.heap.size := (by omega);have se2 : w.heap.size < w2.heap.size := (by omega);have u20 : w2.cell? ⟨w.heap.size + 1 + 1,0,none⟩ = some (.int .i64 0) := (by rw [hc2 _ _ (by first | (simp;done) | (simp;omega))];simp [go_sem]);have u21 : w2.cell? ⟨w.heap.size + 1 + 1,1,none⟩ = some (.int .i64 0) := (by rw [hc2 _ _ (by first | (simp;done) | (simp;omega))];simp [go_sem]);have u22 : w2.cell? ⟨w.heap.size + 1 + 1,2,none⟩ = some (.slice none 0 0) := (by rw [hc2 _ _ (by first | (simp;done) | (simp;omega))];simp [go_sem]);have uf2 : ∀ t,w2.frozen? ⟨w.heap.size + 1 + 1,t,none⟩ = false := fun t => (by rw [hf2 _ _ (by first | (simp;done) | (simp;omega))];simp [go_sem]);have x20 : w2.cell? ⟨w.heap.size,0,none⟩ = some (.int .i64 p.dims) := (by rw [hc2 _ _ (by first | (simp;done) | (simp;omega))];simp [go_sem]);have x21 : w2.cell? ⟨w.heap.size,1,none⟩ = some (.int .i64 p.time.n) := (by rw [hc2 _ _ (by first | (simp;done) | (simp;omega))];simp [go_sem]);have x22 : w2.cell? ⟨w.heap.size,2,none⟩ = some (.slice ta p.time.cells.length tc) := (by rw [hc2 _ _ (by first | (simp;done) | (simp;omega))];simp [go_sem]);have x23 : w2.cell? ⟨w.heap.size,3,none⟩ = some (.int .i64 p.dist.n) := (by rw [hc2 _ _ (by first | (simp;done) | (simp;omega))];simp [go_sem]);have x24 : w2.cell? ⟨w.heap.size,4,none⟩ = some (.slice da p.dist.cells.length dc) := (by rw [hc2 _ _ (by first | (simp;done) | (simp;omega))];simp [go_sem]);have x25 : w2.cell? ⟨w.heap.size,5,none⟩ = some (.slice va p.vs.length vc) := (by rw [hc2 _ _ (by first | (simp;done) | (simp;omega))];simp [go_sem]);have x26 : w2.cell? ⟨w.heap.size,6,none⟩ = some (.slice (some ⟨b,off,none⟩) ln jc) := (by rw [hc2 _ _ (by first | (simp;done) | (simp;omega))];simp [go_sem]);have x27 : w2.cell? ⟨w.heap.size,7,none⟩ = some (.slice sa p.ss.length sc) := (by rw [hc2 _ _ (by first | (simp;done) | (simp;omega))];simp [go_sem]);have y20 : w2.cell? ⟨w.heap.size + 1,0,none⟩ = some (.int .i64 1) := (by rw [hc2 _ _ (by first | (simp;done) | (simp;omega))];simp [go_sem]);have y21 : w2.cell? ⟨w.heap.size + 1,1,none⟩ = some (.int .i64 k) := (by rw [hc2 _ _ (by first | (simp;done) | (simp;omega))];simp [go_sem]);have z0 := (((below_on (HB0.out _ _ _) B2.out).cell (p := ⟨b,off + k * 7,none⟩) hb).trans c0);have z1 := (((below_on (HB0.out _ _ _) B2.out).cell (p := ⟨b,off + k * 7 + 1,none⟩) hb).trans c1);have z2 := (((below_on (HB0.out _ _ _) B2.out).cell (p := ⟨b,off + k * 7 + 2,none⟩) hb).trans c2);have sb9 : b < w2.heap.size := (by omega);clear k2 hc2 hf2) | (go_at_call 61;refine (rof_any _ _ _).mono ?_;rintro e w1 ⟨rfl,k1⟩;rw [HO.out];simp only [taskE];have B1 := hide k1;obtain ⟨hc1,hf1⟩ := bcell k1;have s1 : w.heap.size + 1 + 1 < w1.heap.size := (by have := B1.out.size;simp at this;omega);have sa1 : ¬ w.heap.size + 1 + 1 = w1.heap.size := (by omega);have sb1 : ¬ w.heap.size + 1 = w1.heap.size := (by omega);have sc1 : ¬ w.heap.size = w1.heap.size := (by omega);have sd1 : w.heap.size + 1 < w1.heap.size := (by omega);have se1 : w.heap.size < w1.heap.size := (by omega);have u10 : w1.cell? ⟨w.heap.size + 1 + 1,0,none⟩ = some (.int .i64 0) := (by rw [hc1 _ _ (by first | (simp;done) | (simp;omega))];simp [go_sem]);have u11 : w1.cell? ⟨w.heap.size + 1 + 1,1,none⟩ = some (.int .i64 0) := (by rw [hc1 _ _ (by first | (simp;done) | (simp;omega))];simp [go_sem]);have u12 : w1.cell? ⟨w.heap.size + 1 + 1,2,none⟩ = some (.slice none 0 0) := (by rw [hc1 _ _ (by first | (simp;done) | (simp;omega))];simp [go_sem]);have uf1 : ∀ t,w1.frozen? ⟨w.heap.size + 1 + 1,t,none⟩ = false := fun t => (by rw [hf1 _ _ (by first | (simp;done) | (simp;omega))];simp [go_sem]);have x10 : w1.cell? ⟨w.heap.size,0,none⟩ = some (.int .i64 p.dims) := (by rw [hc1 _ _ (by first | (simp;done) | (simp;omega))];simp [go_sem]);have x11 : w1.cell? ⟨w.heap.size,1,none⟩ = some (.int .i64 p.time.n) := (by rw [hc1 _ _ (by first | (simp;done) | (simp;omega))];simp [go_sem]);have x12 : w1.cell? ⟨w.heap.size,2,none⟩ = some (.slice ta p.time.cells.length tc) := (by rw [hc1 _ _ (by first | (simp;done) | (simp;omega))];simp [go_sem]);have x13 : w1.cell? ⟨w.heap.size,3,none⟩ = some (.int .i64 p.dist.n) := (by rw [hc1 _ _ (by first | (simp;done) | (simp;omega))];simp [go_sem]);have x14 : w1.cell? ⟨w.heap.size,4,none⟩ = some (.slice da p.dist.cells.length dc) := (by rw [hc1 _ _ (by first | (simp;done) | (simp;omega))];simp [go_sem]);have x15 : w1.cell? ⟨w.heap.size,5,none⟩ = some (.slice va p.vs.length vc) := (by rw [hc1 _ _ (by first | (simp;done) | (simp;omega))];simp [go_sem]);have x16 : w1.cell? ⟨w.heap.size,6,none⟩ = some (.slice (some ⟨b,off,none⟩) ln jc) := (by rw [hc1 _ _ (by first | (simp;done) | (simp;omega))];simp [go_sem]);have x17 : w1.cell? ⟨w.heap.size,7,none⟩ = some (.slice sa p.ss.length sc) := (by rw [hc1 _ _ (by first | (simp;done) | (simp;omega))];simp [go_sem]);have y10 : w1.cell? ⟨w.heap.size + 1,0,none⟩ = some (.int .i64 1) := (by rw [hc1 _ _ (by first | (simp;done) | (simp;omega))];simp [go_sem]);have y11 : w1.cell? ⟨w.heap.size + 1,1,none⟩ = some (.int .i64 k) := (by rw [hc1 _ _ (by first | (simp;done) | (simp;omega))];simp [go_sem]);clear k1 hc1 hf1))
 refine bodyPost_ret (v := .tuple #[.agg #[.int .i64 st.place,.int .i64 st.serv,.slice ya st.wins.length yc],.bool true]) ?_ rfl ⟨_,rfl,HW.out,(by repeat (first | exact below_on (HB0.out _ _ _) B2.out | (refine Below.setCell ?_ (by simp;omega) _) | refine Below.drew ?_ | (refine Below.alloc ?_ (by have := B2.out.size;simp at this ⊢;omega) _)))⟩
 simp [results,Try.results38,go_sem, *]
theorem rstopO_any {w0 w : World} {x : PrbS} {p : Prb} (h : PrbV w0 x p) (f : Below w0.heap.size w0 w) (k i : Int) : Calls Try.prog 38 #[.agg (prbE p x),.agg #[.int .i64 k,.int .i64 i]] w fun e w' => ∃ y,e = .returned (.tuple #[.agg #[.int .i64 (stpM p k i).place,.int .i64 (stpM p k i).serv,y],.bool (thereV p k i)]) ∧ WinsV w0 y (stpM p k i).wins ∧ Below w.heap.size w w' := by
 cases ht : thereV p k i with
 | false =>
  rw [stpM_no ht]
  refine (rstop18_no (h.on f) k i ht).mono ?_
  rintro e w' ⟨rfl,hb⟩
  exact ⟨_,rfl,⟨none,0,rfl,fun _ => rfl,rfl,by decide,fun k hk => by simp [sz] at hk⟩,hb⟩
 | true =>
  rcases thereV_cases ht with ⟨rfl,j,rfl,hj,e⟩ | ⟨rfl,j,rfl,hj,e⟩ | ⟨rfl,j,rfl,hj,e⟩ <;> rw [e]
  ·exact rstop18_jobO h f hj
  ·exact rstop18_pickO h f hj
  ·exact rstop18_deliO h f hj
end Go.Proofs.Ytndbikoccdjafaa
