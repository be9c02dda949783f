/-
  An object that is being read: a name is put to it.
-/
import Derived.Test.YtpffhckimilppaaDoorJListB
namespace Go.Proofs.YtpffhckimilppaaDoor.Js
open Go.RowKit

section
variable {B : List UInt8} {R tb toff cap : Nat} {w0 w w' : World} {a d : Nat} {v : Value} {T : List V} {cs : List Value}
variable {wst wX : World} {o0 : Option Nat} {cs0 : List Value} {hi mb vb rb kind : Nat} {ns : List (List UInt8)} {ks : List Nat} {na ka : Option Addr} {nc kc : Nat}

/-- A name is put to the open value. -/
theorem JG.addName (h : JG B R tb toff cap w0 d wst o0 cs0 hi mb wX vb rb kind ns ks T w a v cs na nc ka kc) {w3 : World} {b : Obj} {ka3 : Option Addr} {kc3 : Nat} {x : List UInt8} (hle : ns.length ≤ ks.length)
    (hown : w3.ownsRow 0 9 1 (.slice ka3 (ns ++ [x]).length kc3) (ns ++ [x]).length ((ns ++ [x]).map strv)) (hg : (w.alloc b).grownBy w3 (Value.slice na ns.length nc).ownBlock)
    (hm : Moved (w.alloc b).heap.size (Value.slice na ns.length nc).ownBlock (Value.slice ka3 (ns ++ [x]).length kc3).ownBlock) :
    JG B R tb toff cap w0 d wst o0 cs0 hi mb wX vb rb kind (ns ++ [x]) ks T (w3.setCell ⟨vb, 4, none⟩ (.slice ka3 (ns ++ [x]).length kc3)) a v cs ka3 kc3 ka kc := by
  have hs := h.fr.size
  have hsz : w.heap.size ≤ w3.heap.size := Nat.le_trans (by simp) hg.size
  have same3 : ∀ k, k < w.heap.size → (Value.slice na ns.length nc).ownBlock ≠ some k → w3.heap[k]? = w.heap[k]? := fun k hk hne => by
    rw [hg.block k (by simp; omega) (fun e => hne e.symm)]
    exact Below.heap_alloc w b k hk
  have same : ∀ k, k < w.heap.size → (Value.slice na ns.length nc).ownBlock ≠ some k → k ≠ vb → (w3.setCell ⟨vb, 4, none⟩ (.slice ka3 (ns ++ [x]).length kc3)).heap[k]? = w.heap[k]? := fun k hk hne hv => by
    rw [heap_setCell_other _ _ k _ hv]
    exact same3 k hk hne
  have neTy : ∀ g t, TyOf w g t → t ≠ 9 → (Value.slice na ns.length nc).ownBlock ≠ some g := fun g t hg ht e => hg.ne (h.tyN g e) ht rfl
  have old : ∀ k, k < wst.heap.size → (Value.slice na ns.length nc).ownBlock ≠ some k ∧ k ≠ vb := fun k hk => ⟨fun e => by have := h.nnew k e; have := h.hilo; omega, by have := h.hvb; omega⟩
  have hvb3 : w3.heap[vb]? = _ := (same3 vb h.tyV.lt (neTy vb 42 h.tyV (by decide))).trans h.vbk
  have hk3 : ∀ g, (Value.slice ka3 (ns ++ [x]).length kc3).ownBlock = some g → g ≠ vb := fun g e => (own_ty hown g e).ne ⟨_, _, hvb3⟩ (by decide)
  exact {
    st := h.st.beside (hg.os) (hg.tape) (hg.output) (by simpa [World.setCell] using hsz)
      (fun k hk => same k (by have := h.hR; omega) (old k (by have := h.hR; omega)).1 (old k (by have := h.hR; omega)).2)
      (fun g e => same g (h.st.ownLt g e) (neTy g 42 (h.st.tyO g e) (by decide)) (fun e2 => h.vne (by rw [e, e2])))
      (fun g hc => same g (h.st.reps.lt g hc) (fun e => h.nsep g e hc) (by
        rcases h.st.reps.ty g hc with t | t
        · exact t.ne h.tyV (by decide)
        · exact t.ne h.tyV (by decide)))
    vbk := by
      have := heap_setCell_same w3 vb 4 _ _ (.slice ka3 (ns ++ [x]).length kc3) hvb3
      rw [this]; rfl
    own := ⟨ownsRow_setCell_other hown (fun e => hk3 _ e rfl) _,
      own_eq h.own.kids (fun g e => same g (h.tyK g e).lt (neTy g 3 (h.tyK g e) (by decide)) ((h.tyK g e).ne h.tyV (by decide)))⟩
    rbk := (same rb h.tyRb.lt (neTy rb 67 h.tyRb (by decide)) (h.tyRb.ne h.tyV (by decide))).trans h.rbk
    fr := ⟨(hg.os).trans h.fr.os, (hg.tape).trans h.fr.tape, (hg.output).trans h.fr.output, by simpa [World.setCell] using Nat.le_trans hs hsz, fun k hk hR ho => (same k (by omega) (old k hk).1 (old k hk).2).trans (h.fr.block k hk hR ho)⟩
    mv := h.mv
    mid := fun k h1 h2 h3 h4 => (same k (Nat.lt_of_lt_of_le h2 h.hisz) (fun e => by have := h.nnew k e; omega) h3).trans (h.mid k h1 h2 h3 h4)
    hilo := h.hilo
    hisz := by simpa [World.setCell] using Nat.le_trans h.hisz hsz
    olt := h.olt
    vhi := h.vhi
    rhi := h.rhi
    vne := h.vne
    knew := h.knew
    nnew := fun g e => by
      rcases hm with e2 | ⟨g2, e2, hg2⟩
      · exact h.nnew g (by rw [← e2]; exact e)
      · rw [e] at e2; cases e2; simp at hg2; have := h.hisz; omega
    ksep := h.ksep
    nsep := fun g e hc => by
      rcases hm with e2 | ⟨g2, e2, hg2⟩
      · exact h.nsep g (by rw [← e2]; exact e) hc
      · rw [e] at e2; cases e2; have := h.st.reps.lt g hc; simp at hg2; omega
    new := h.new
    le := h.le
    nle := by simp; omega
    hvb := h.hvb
    hrb := h.hrb
    hR := h.hR }

theorem JG.addName' (h : JG B R tb toff cap w0 d wst o0 cs0 hi mb wX vb rb kind ns ks T w a v cs na nc ka kc) {w3 : World} {b : Obj} {ka3 : Option Addr} {kc3 : Nat} {x : List UInt8} (hle : ns.length ≤ ks.length)
    (hown : w3.ownsRow 0 9 1 (.slice ka3 (ns.length + 1) kc3) (ns.length + 1) (ns.map strv ++ [strv x])) (hg : (w.alloc b).grownBy w3 (Value.slice na ns.length nc).ownBlock)
    (hm : Moved (w.alloc b).heap.size (Value.slice na ns.length nc).ownBlock (Value.slice ka3 (ns.length + 1) kc3).ownBlock) :
    JG B R tb toff cap w0 d wst o0 cs0 hi mb wX vb rb kind (ns ++ [x]) ks T (w3.setCell ⟨vb, 4, none⟩ (.slice ka3 (ns.length + 1) kc3)) a v cs ka3 kc3 ka kc := by
  have e : ns.length + 1 = (ns ++ [x]).length := by simp
  rw [e] at hown hm ⊢
  exact h.addName hle (by rw [List.map_append]; exact hown) hg hm

theorem SetIs.obj {m : Nat} {l : List (List UInt8)} (h : SetIs w m l) : ∃ es clock, w.heap[m]? = some (.map es clock) := by obtain ⟨es, clock, hb, _⟩ := h; exact ⟨es, clock, hb⟩
theorem SetIs.eq {m : Nat} {l : List (List UInt8)} (h : SetIs w m l) (hb : w'.heap[m]? = w.heap[m]?) : SetIs w' m l := by obtain ⟨es, clock, h1, r⟩ := h; exact ⟨es, clock, hb.trans h1, r⟩
theorem TyOf.noMap {g m : Nat} {t : TypeId} {l : List (List UInt8)} (h : TyOf w g t) (k : SetIs w m l) : g ≠ m := by
  rintro rfl
  obtain ⟨c, f, hc⟩ := h
  obtain ⟨es, cl, hm⟩ := k.obj
  rw [hc] at hm; cases hm

/-- The names' set has turned. -/
theorem JG.named (h : JG B R tb toff cap w0 d wst o0 cs0 hi mb wX vb rb kind ns ks T w a v cs na nc ka kc) {l : List (List UInt8)} (hset : SetIs w mb l) (hm1 : wst.heap.size ≤ mb) {a' : Nat} (f : Fr R (some mb) w w') (hs : Sc B R tb toff cap w0 w' a' d v) :
    JG B R tb toff cap w0 d wst o0 cs0 hi mb wX vb rb kind ns ks T w' a' v cs na nc ka kc := by
  have hR := h.hR
  have hne : ∀ g t, TyOf w g t → t ≠ 62 → w'.heap[g]? = w.heap[g]? := fun g t hg h1 =>
    f.block g hg.lt (hg.ne h.st.tyR h1) (fun e => hg.noMap hset (by cases e; rfl))
  exact { h with
    st := ⟨hs, own_eq h.st.own (fun g e => hne g 42 (h.st.tyO g e) (by decide)), h.st.reps.eq (fun g hc => by
      rcases h.st.reps.ty g hc with t | t
      · exact hne g 9 t (by decide)
      · exact hne g 3 t (by decide)), h.st.le⟩
    vbk := (hne vb 42 h.tyV (by decide)).trans h.vbk
    own := h.own.eq (fun g e => hne g 9 (h.tyN g e) (by decide)) (fun g e => hne g 3 (h.tyK g e) (by decide))
    rbk := (hne rb 67 h.tyRb (by decide)).trans h.rbk
    fr := h.fr.trans f (.inr ⟨mb, rfl, hm1⟩)
    mid := fun k h1 h2 h3 h4 => by
      have := h.hisz
      rw [f.block k (by omega) (by omega) (fun e => by cases e; exact h4 rfl)]
      exact h.mid k h1 h2 h3 h4
    hisz := Nat.le_trans h.hisz f.size }
end
end Go.Proofs.YtpffhckimilppaaDoor.Js