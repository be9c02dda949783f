import Derived.Test.YtgjpkpmikbpcnaaVFitH
namespace Go.Proofs.Ytgjpkpmikbpcnaa
open Go.RowKit
def fM (V : List Vst) (n i k : Nat) : List Vst := fE V ((([i,k] : List Nat).take n).map fun z : Nat => (z : Int))
theorem mC {m i k n : Nat} (hik : i ≤ k) (hk : k ≤ m) (hn : n = 1 ∨ n = 2) : Vld m 0 (([i,k] : List Nat).take n) ∧ (([i,k] : List Nat).take n).length = n := by
 rcases hn with rfl | rfl
 ·exact ⟨⟨Nat.zero_le _,by omega,trivial⟩,rfl⟩
 ·exact ⟨⟨Nat.zero_le _,by omega,hik,hk,trivial⟩,rfl⟩
theorem sN {V : List Vst} {n i k : Nat} (hik : i ≤ k) (hk : k ≤ V.length) (hn : n = 1 ∨ n = 2) : fM V n i k = dB 0 0 (([i,k] : List Nat).take n) V := by
 unfold fM;exact pK (mC hik hk hn).1
theorem try_one (V : List Vst) (i k k' : Nat) : fM V 1 i k = fM V 1 i k' := rfl
theorem vS {p : Prb} {vi : Int} {V : List Vst} {n : Nat} (h : (p.vs.getD vi.toNat vz).brks.length = n) (hn : n = 1 ∨ n = 2) : dN p vi V = fM V n 0 0 := by
 unfold dN fM;rw [h]
 rcases hn with rfl | rfl <;> rfl
theorem lJ {p : Prb} {vi : Int} (h : eX p vi = true) (V : List Vst) : ofE p vi V = dP p (p.vs.getD vi.toNat vz) V := by
 unfold ofE;rw [pB];unfold eX at h;rw [h]
 rfl
section
variable {p : Prb} {vi : Int} {V : List Vst} {n : Nat}
theorem sB (hl : bC p = true) (hm : eX p vi = true) (hb : iG V = false) (hn : (p.vs.getD vi.toNat vz).brks.length = n) (h2 : n = 1 ∨ n = 2) (he : ofE p vi (fM V n 0 0) = 167) : yaB p (p.vs.getD vi.toNat vz) V (eA p (p.vs.getD vi.toNat vz) V) := by
 obtain ⟨k,hk,hkl⟩ := gR (show (decide (0 ≤ vi) && decide (vi < (p.vs.length : Int))) = true from hm);have hvo : jA p.dims p.time.n (p.vs.getD vi.toNat vz) := gI (eF hl (by rw [hk];simpa using hkl));have hV := oU hb;rw [lJ hm,sN (Nat.le_refl _) (Nat.zero_le _) h2] at he;exact mS hl hvo hV (by rw [(mC (Nat.le_refl 0) (Nat.zero_le V.length) h2).2,hn]) he
theorem ybT {i k : Nat} (hl : bC p = true) (hm : eX p vi = true) (hb : iG V = false) (hn : (p.vs.getD vi.toNat vz).brks.length = n) (h2 : n = 1 ∨ n = 2) (hik : i ≤ k) (hk : k ≤ V.length) (h0 : ∀ a b,a < i → a ≤ b → b ≤ V.length → ofE p vi (fM V n a b) = 167) (h1 : ∀ b,i ≤ b → b < k → ofE p vi (fM V n i b) = 167) (he : ofE p vi (fM V n i k) ≠ 167) : fQ p vi V = ofE p vi (fM V n i k) ∧ eZ p vi V = ofP p vi (fM V n i k) := by
 have hH := vS (V := V) hn h2
 by_cases hz : ofE p vi (fM V n 0 0) = 167
 ·have hF := sB hl hm hb hn h2 hz
  have hEP : fQ p vi V = (match eA p (p.vs.getD vi.toNat vz) V with | none => 167 | some ps => ofE p vi (fE V (ps.map fun n : Nat => (n : Int)))) ∧ eZ p vi V = (match eA p (p.vs.getD vi.toNat vz) V with | none => planZ | some ps => ofP p vi (fE V (ps.map fun n : Nat => (n : Int)))) := by
   unfold fQ eZ;rw [hm,hb,hH,hz];exact ⟨rfl,rfl⟩
  have hlen : ∀ ps : List Nat,ps.length = n → Vld V.length 0 ps → ∃ a b,ps = ([a,b] : List Nat).take n ∧ a ≤ b ∧ b ≤ V.length := fun ps hps hv => by
   rcases h2 with rfl | rfl
   ·obtain ⟨a,rfl⟩ : ∃ a,ps = [a] := by
     rcases ps with _ | ⟨a,_ | ⟨c,r⟩⟩
     ·simp at hps
     ·exact ⟨a,rfl⟩
     ·simp at hps
    exact ⟨a,a,rfl,Nat.le_refl _,hv.2.1⟩
   ·obtain ⟨a,b,rfl⟩ : ∃ a b,ps = [a,b] := by
     rcases ps with _ | ⟨a,_ | ⟨c,_ | ⟨d,r⟩⟩⟩
     ·simp at hps
     ·simp at hps
     ·exact ⟨a,c,rfl⟩
     ·simp at hps
    exact ⟨a,b,rfl,hv.2.2.1,hv.2.2.2.1⟩
  have herr : ∀ a b,a ≤ b → b ≤ V.length → ofE p vi (fM V n a b) = dP p (p.vs.getD vi.toNat vz) (dB 0 0 (([a,b] : List Nat).take n) V) := fun a b hab hbl => by rw [lJ hm,sN hab hbl h2]
  cases hs : eA p (p.vs.getD vi.toNat vz) V with
  | none =>
   exfalso
   rw [hs] at hF;have hv := mC hik hk h2;refine he ?_;rw [herr i k hik hk];exact hF.no rfl _ (by rw [hv.2,hn]) hv.1
  | some ps =>
   rw [hs] at hF hEP;obtain ⟨y1,y2,y3,y4⟩ := hF.yes ps rfl;obtain ⟨a,b,rfl,hab,hbl⟩ := hlen ps (by rw [y1,hn]) y2;have hv := mC hik hk h2;have e0 : ofE p vi (fM V n a b) = 0 := by rw [herr a b hab hbl];exact y3
   have hnl : ¬ tH (([i,k] : List Nat).take n) (([a,b] : List Nat).take n) := fun hx => he (by rw [herr i k hik hk];exact y4 _ (by rw [hv.2,hn]) hv.1 hx);have hia : ¬ a < i := fun h => by rw [h0 a b h hab hbl] at e0;cases e0
   have heq : (([a,b] : List Nat).take n) = (([i,k] : List Nat).take n) := by
    rcases h2 with rfl | rfl
    ·have hx : ¬ tH [i] [a] := hnl;simp only [tH] at hx;have : i = a := by omega
     rw [this];rfl
    ·have hx : ¬ tH [i,k] [a,b] := hnl;simp only [tH] at hx;have e1 : i = a := by omega
     subst e1;have hkb : ¬ b < k := fun h => by rw [h1 b hab h] at e0;cases e0
     have e2 : k = b := by omega
     rw [e2]
   rw [hEP.1,hEP.2];show ofE p vi (fE V (List.map _ _)) = _ ∧ ofP p vi (fE V (List.map _ _)) = _;unfold fM;rw [heq];exact ⟨rfl,rfl⟩
 ·have hi : i = 0 := by
   by_cases h : i = 0
   ·exact h
   ·exact absurd (h0 0 0 (by omega) (Nat.le_refl _) (Nat.zero_le _)) hz
  subst hi
  have hk0 : k = 0 := by
   by_cases h : k = 0
   ·exact h
   ·exact absurd (h1 0 (Nat.le_refl _) (by omega)) hz
  subst hk0;unfold fQ eZ;rw [hm,hb,hH,decide_eq_false hz];exact ⟨rfl,rfl⟩
theorem ybS (hl : bC p = true) (hm : eX p vi = true) (hb : iG V = false) (hn : (p.vs.getD vi.toNat vz).brks.length = n) (h2 : n = 1 ∨ n = 2) (h0 : ∀ a b,a ≤ b → b ≤ V.length → ofE p vi (fM V n a b) = 167) : fQ p vi V = 167 ∧ eZ p vi V = planZ := by
 have hz := h0 0 0 (Nat.le_refl _) (Nat.zero_le _);have hF := sB hl hm hb hn h2 hz;have hH := vS (V := V) hn h2
 have hs : eA p (p.vs.getD vi.toNat vz) V = none := by
  cases hs : eA p (p.vs.getD vi.toNat vz) V with
  | none => rfl
  | some ps =>
   exfalso
   rw [hs] at hF;obtain ⟨y1,y2,y3,y4⟩ := hF.yes ps rfl;rw [hn] at y1
   have key : ∃ a b,ps = ([a,b] : List Nat).take n ∧ a ≤ b ∧ b ≤ V.length := by
    rcases h2 with rfl | rfl
    ·rcases ps with _ | ⟨a,_ | ⟨c,r⟩⟩
     ·simp at y1
     ·exact ⟨a,a,rfl,Nat.le_refl _,y2.2.1⟩
     ·simp at y1
    ·rcases ps with _ | ⟨a,_ | ⟨c,_ | ⟨d,r⟩⟩⟩
     ·simp at y1
     ·simp at y1
     ·exact ⟨a,c,rfl,y2.2.2.1,y2.2.2.2.1⟩
     ·simp at y1
   obtain ⟨a,b,rfl,hab,hbl⟩ := key;have := h0 a b hab hbl;rw [lJ hm,sN hab hbl h2,y3] at this
   cases this
 unfold fQ eZ;rw [hm,hb,hH,hz,hs];exact ⟨rfl,rfl⟩
theorem yeF (hm : eX p vi = true) (hb : iG V = false) (hl : bC p = true) (hn : (p.vs.getD vi.toNat vz).brks.length = 0) : fQ p vi V = ofE p vi V ∧ eZ p vi V = ofP p vi V := by
 have hH : dN p vi V = V := by
  unfold dN;rw [hn];exact pK (V := V) (ps := []) trivial
 by_cases hz : ofE p vi V = 167
 ·obtain ⟨k,hk,hkl⟩ := gR (show (decide (0 ≤ vi) && decide (vi < (p.vs.length : Int))) = true from hm);have hvo : jA p.dims p.time.n (p.vs.getD vi.toNat vz) := gI (eF hl (by rw [hk];simpa using hkl));have hF : yaB p (p.vs.getD vi.toNat vz) V (eA p (p.vs.getD vi.toNat vz) V) := mS (ps0 := []) hl hvo (oU hb) (by rw [hn];rfl) (by rw [← lJ hm];exact hz)
  have hs : eA p (p.vs.getD vi.toNat vz) V = none := by
   cases hs : eA p (p.vs.getD vi.toNat vz) V with
   | none => rfl
   | some ps =>
    exfalso
    rw [hs] at hF;obtain ⟨y1,y2,y3,y4⟩ := hF.yes ps rfl;rw [hn] at y1;have : ps = [] := List.eq_nil_of_length_eq_zero y1;subst this;rw [lJ hm] at hz;rw [show dB 0 0 [] V = V from rfl,hz] at y3
    cases y3
  unfold fQ eZ;rw [hm,hb,hH,hz,hs];exact ⟨rfl,(fH (by rw [hz];decide)).symm⟩
 ·unfold fQ eZ;rw [hm,hb,hH,decide_eq_false hz];exact ⟨rfl,rfl⟩
end
end Go.Proofs.Ytgjpkpmikbpcnaa
