/-
  A problem whose rows are all owned, each in a block of its own: what a copy is.
-/
import Derived.Test.YtgjpkpmikbpcnaaCpE
namespace Go.Proofs.Ytgjpkpmikbpcnaa
open Go.RowKit

/-- A problem with its own lists: the three rows of structs lie in gv, gj, gs, all others elsewhere. -/
structure CpF (w : World) (base gv gj gs : Nat) (p : Prb) (x : PrbS) : Prop where
  t : OInts w base (G3 gv gj gs) x.t p.time.cells
  d : OInts w base (G3 gv gj gs) x.d p.dist.cells
  ev : x.v.ownBlock = some gv
  ej : x.j.ownBlock = some gj
  es : x.s.ownBlock = some gs
  vj : gv ≠ gj
  vs : gv ≠ gs
  js : gj ≠ gs
  v : ORow w base 86 11 120 (fun g => G3 gv gj gs g ∧ g ≠ gv) (fun _ l v => OVeh w w base (G3 gv gj gs) (G3 gv gj gs) v.brks.length l v) x.v p.vs
  j : ORow w base 67 7 104 (fun g => G3 gv gj gs g ∧ g ≠ gj) (fun _ l j => OJob w base (G3 gv gj gs) l j) x.j p.js
  s : ORow w base 103 9 120 (fun g => G3 gv gj gs g ∧ g ≠ gs) (fun _ l s => OShp w base (G3 gv gj gs) l s) x.s p.ss
theorem ORow.imp {α : Type} {w : World} {base T z y : Nat} {G : Nat → Prop} {v : Value} {PV PV' : Nat → List Value → α → Prop} {L : List α} (h : ORow w base T z y G PV v L) (hp : ∀ k l a, L[k]? = some a → PV k l a → PV' k l a) : ORow w base T z y G PV' v L := by
  obtain ⟨R, h1, h2, h3, h4, h5⟩ := h
  refine ⟨R, h1, h2, h3, h4, fun k a ha => ?_⟩
  obtain ⟨l, e1, e2, e3, e4⟩ := h5 k a ha
  exact ⟨l, e1, e2, e3, hp k l a ha e4⟩
/-- Breaks that are all copied hang on no elder world. -/
theorem OVeh.free {w0 w0' w : World} {base : Nat} {G G0 : Nat → Prop} {l : List Value} {v : Veh} (h : OVeh w0 w base G G0 v.brks.length l v) : OVeh w0' w base G G0 v.brks.length l v := by
  obtain ⟨xc, xb, e, h1, h2, h3⟩ := h
  refine ⟨xc, xb, e, h1, h2.imp fun k l b hb h => ?_, h3⟩
  obtain ⟨y, e, h⟩ := h
  have hk := (List.getElem?_eq_some_iff.1 hb).1
  rw [if_pos hk] at h
  exact ⟨y, e, by rw [if_pos hk]; exact h⟩
theorem CpF.kp {w w' : World} {base gv gj gs : Nat} {p : Prb} {x : PrbS} (h : CpF w base gv gj gs p x) (kp : ∀ G : Nat → Prop, Kp w w' base G G) : CpF w' base gv gj gs p x :=
  ⟨h.t.kp (kp _), h.d.kp (kp _), h.ev, h.ej, h.es, h.vj, h.vs, h.js, h.v.kp (kp _) fun _ _ _ h => OVeh.free (h.kp (kp _)), h.j.kp (kp _) fun _ _ _ h => h.kp (kp _), h.s.kp (kp _) fun _ _ _ h => h.kp (kp _)⟩
theorem CpF.on {w w' : World} {base gv gj gs : Nat} {p : Prb} {x : PrbS} (h : CpF w base gv gj gs p x) (f : Below w.heap.size w w') : CpF w' base gv gj gs p x := h.kp fun _ g h1 _ h3 => ⟨f.block g h3, h1⟩
theorem cps_fin {w0 w w2 : World} {bx gv gj gs : Nat} {p : Prb} {x : PrbS} (h : CpS w0 w bx gv gj gs p x p.vs.length p.js.length p.ss.length) (hstp : Stp1 w w2 (bx + 1)) : CpF w2 (bx + 2) gv gj gs p x := by
  have kp : ∀ (G : Nat → Prop), Kp w w2 (bx + 2) G G := fun G g h1 h2 h3 => ⟨hstp.block g h3 (by omega), h1⟩
  refine ⟨h.t.kp (kp _), h.d.kp (kp _), h.ev, h.ej, h.es, h.vj, h.vs, h.js, ?_, ?_, ?_⟩
  · have h1 : ORow w (bx + 2) 86 11 120 (fun g => G3 gv gj gs g ∧ g ≠ gv) (fun _ l v => OVeh w0 w (bx + 2) (G3 gv gj gs) (G3 gv gj gs) v.brks.length l v) x.v p.vs := h.v.imp fun k l a ha hp => by
      unfold PVeh at hp
      rw [if_pos (List.getElem?_eq_some_iff.1 ha).1] at hp
      exact hp
    exact h1.kp (kp _) fun _ _ _ h => OVeh.free (h.kp (kp _))
  · have h1 : ORow w (bx + 2) 67 7 104 (fun g => G3 gv gj gs g ∧ g ≠ gj) (fun _ l j => OJob w (bx + 2) (G3 gv gj gs) l j) x.j p.js := h.j.imp fun k l a ha hp => by
      unfold PJob at hp
      rw [if_pos (List.getElem?_eq_some_iff.1 ha).1] at hp
      exact hp
    exact h1.kp (kp _) fun _ _ _ h => h.kp (kp _)
  · have h1 : ORow w (bx + 2) 103 9 120 (fun g => G3 gv gj gs g ∧ g ≠ gs) (fun _ l s => OShp w (bx + 2) (G3 gv gj gs) l s) x.s p.ss := h.s.imp fun k l a ha hp => by
      unfold PShp at hp
      rw [if_pos (List.getElem?_eq_some_iff.1 ha).1] at hp
      exact hp
    exact h1.kp (kp _) fun _ _ _ h => h.kp (kp _)
/-- .. in whatever blocks. -/
def CpQ (w : World) (base : Nat) (p : Prb) (x : PrbS) : Prop := ∃ gv gj gs, CpF w base gv gj gs p x
theorem CpF.prb {w : World} {base gv gj gs : Nat} {p : Prb} {x : PrbS} (h : CpF w base gv gj gs p x) : PrbV w x p := by
  refine ⟨h.t.read, h.d.read, h.v.read fun k l a ha hp => VehV.of_o hp, h.j.read fun k l a ha hp => ?_, h.s.read fun k l a ha hp => ?_⟩
  · obtain ⟨a, b, c, e, h1, h2, h3, h4⟩ := hp
    exact ⟨a, b, c, e, h1.read, h2.read, h3.read, h4⟩
  · obtain ⟨a, b, c, e, h1, h2, h3, h4⟩ := hp
    exact ⟨a, b, c, e, h1.read, h2.read, h3.read, h4⟩
theorem CpQ.prb {w : World} {base : Nat} {p : Prb} {x : PrbS} (h : CpQ w base p x) : PrbV w x p := by
  obtain ⟨_, _, _, h⟩ := h
  exact h.prb
theorem CpQ.on {w w' : World} {base : Nat} {p : Prb} {x : PrbS} (h : CpQ w base p x) (f : Below w.heap.size w w') : CpQ w' base p x := by
  obtain ⟨a, b, c, h⟩ := h
  exact ⟨a, b, c, h.on f⟩
end Go.Proofs.Ytgjpkpmikbpcnaa
