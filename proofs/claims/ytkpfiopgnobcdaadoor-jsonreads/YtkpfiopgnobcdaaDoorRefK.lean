/-
  The document's reader of JSON: a list or object that is being read.
-/
import Derived.Test.YtkpfiopgnobcdaaDoorRefJ
namespace Go.Proofs.YtkpfiopgnobcdaaDoor
open Go.RowKit

section
variable {B : List UInt8} {R cap : Nat} {ta : Option Addr} {w0 w w' : World} {a bb pp : Nat} {v : Value} {T : List V} {cs : List Value}
/-- Beside a reading: what it has is as it was. -/
theorem RSt.beside (h : RSt B R cap ta w0 w a bb pp v T cs) (hos : w'.os = w.os) (htape : w'.tape = w.tape) (hout : w'.output = w.output) (hsize : w.heap.size ≤ w'.heap.size)
    (hR : ∀ k, k ≤ R → w'.heap[k]? = w.heap[k]?) (hv : ∀ g, v.ownBlock = some g → w'.heap[g]? = w.heap[g]?) (hc : ∀ g, Has cs g → w'.heap[g]? = w.heap[g]?) : RSt B R cap ta w0 w' a bb pp v T cs :=
  ⟨⟨h.sc.below.trans ⟨hos, htape, hout, hsize, fun k hk => hR k (by omega)⟩, by have := h.sc.rd; unfold RdR at this ⊢; rw [hR R (Nat.le_refl _)]; exact this, h.sc.at_le⟩, own_eq h.own hv, h.reps.eq hc, h.le⟩

/-- A list or object that is being read: of the kind, with these names and kids so far; wst: the world in which it began. -/
structure RJ (B : List UInt8) (R cap : Nat) (ta : Option Addr) (w0 wst : World) (o0 : Option Nat) (cs0 : List Value) (hi vb kind : Nat) (ns : List (List UInt8)) (ks : List Nat) (T : List V) (w : World) (a bb pp : Nat) (v : Value)
    (cs : List Value) (na : Option Addr) (nc : Nat) (ka : Option Addr) (kc : Nat) : Prop where
  st : RSt B R cap ta w0 w a bb pp v T cs
  vbk : w.heap[vb]? = some (.cells #[.int .i64 kind, .bool false, .int .i64 0, .string ⟨#[]⟩, .slice na ns.length nc, .slice ka ks.length kc] 42 (0, 0))
  own : VOwn w { names := ns, kids := ks } (.slice na ns.length nc) (.slice ka ks.length kc)
  fr : Fr R o0 wst w
  mv : Moved hi o0 v.ownBlock
  hilo : wst.heap.size ≤ hi
  hisz : hi ≤ w.heap.size
  olt : ∀ g, o0 = some g → g < wst.heap.size
  vhi : vb < hi
  vne : v.ownBlock ≠ some vb
  nnew : NewRow hi (.slice na ns.length nc)
  knew : NewRow hi (.slice ka ks.length kc)
  nsep : ∀ g, (Value.slice na ns.length nc).ownBlock = some g → ¬ Has cs g
  ksep : ∀ g, (Value.slice ka ks.length kc).ownBlock = some g → ¬ Has cs g
  new : New wst.heap.size cs0 cs
  le : ks.length ≤ T.length + 1
  nle : ns.length ≤ ks.length + 1
  hvb : wst.heap.size ≤ vb
  hR : R < wst.heap.size
variable {wst : World} {o0 : Option Nat} {cs0 : List Value} {hi vb kind : Nat} {ns : List (List UInt8)} {ks : List Nat} {na ka : Option Addr} {nc kc : Nat}

theorem RJ.tyV (h : RJ B R cap ta w0 wst o0 cs0 hi vb kind ns ks T w a bb pp v cs na nc ka kc) : TyOf w vb 42 := ⟨_, _, h.vbk⟩
theorem RJ.tyN (h : RJ B R cap ta w0 wst o0 cs0 hi vb kind ns ks T w a bb pp v cs na nc ka kc) (g : Nat) (hg : (Value.slice na ns.length nc).ownBlock = some g) : TyOf w g 9 := own_ty h.own.names g hg
theorem RJ.tyK (h : RJ B R cap ta w0 wst o0 cs0 hi vb kind ns ks T w a bb pp v cs na nc ka kc) (g : Nat) (hg : (Value.slice ka ks.length kc).ownBlock = some g) : TyOf w g 3 := own_ty h.own.kids g hg

theorem RJ.vout (h : RJ B R cap ta w0 wst o0 cs0 hi vb kind ns ks T w a bb pp v cs na nc ka kc) (k : Nat) (h1 : wst.heap.size ≤ k) (h2 : k < hi) : v.ownBlock ≠ some k := by
  intro e
  rcases h.mv with e2 | ⟨g, e2, hg⟩
  · rw [e2] at e; have := h.olt k e; omega
  · rw [e2] at e; cases e; omega
/-- Other memory turned: what the open value has is as it was. -/
theorem RJ.keep (h : RJ B R cap ta w0 wst o0 cs0 hi vb kind ns ks T w a bb pp v cs na nc ka kc) {a' bb' pp' : Nat} {v' : Value} {T' : List V} {cs' : List Value} (f : Fr R v.ownBlock w w') (hst : RSt B R cap ta w0 w' a' bb' pp' v' T' cs') (hm : Moved w.heap.size v.ownBlock v'.ownBlock) (hn : New w.heap.size cs cs') (hT : T.length ≤ T'.length) :
    RJ B R cap ta w0 wst o0 cs0 hi vb kind ns ks T' w' a' bb' pp' v' cs' na nc ka kc := by
  have hs := h.fr.size
  have hne : ∀ g t, TyOf w g t → t ≠ 45 → t ≠ 42 → w'.heap[g]? = w.heap[g]? := fun g t hg h1 h2 =>
    f.block g hg.lt (hg.ne h.st.tyR h1) (fun e => hg.ne (h.st.tyO g e) h2 rfl)
  have hvb : w'.heap[vb]? = w.heap[vb]? := f.block vb h.tyV.lt (by have := h.hvb; have := h.hR; omega) h.vne
  exact {
    st := hst
    vbk := hvb.trans h.vbk
    own := h.own.eq (fun g e => hne g 9 (h.tyN g e) (by decide) (by decide)) (fun g e => hne g 3 (h.tyK g e) (by decide) (by decide))
    fr := h.fr.trans f (h.mv.le h.hilo)
    mv := h.mv.trans hm h.hisz
    hilo := h.hilo
    hisz := Nat.le_trans h.hisz f.size
    olt := h.olt
    vhi := h.vhi
    vne := by
      rcases hm with e | ⟨g, e, hg⟩
      · rw [e]; exact h.vne
      · rw [e]; intro e2; cases e2; have := h.tyV.lt; omega
    nnew := h.nnew
    knew := h.knew
    nsep := fun g e hc => by
      rcases hn g hc with h1 | h1
      · exact h.nsep g e h1
      · have := (h.tyN g e).lt; omega
    ksep := fun g e hc => by
      rcases hn g hc with h1 | h1
      · exact h.ksep g e h1
      · have := (h.tyK g e).lt; omega
    new := h.new.trans hn hs
    le := by have := h.le; omega
    nle := h.nle
    hvb := h.hvb
    hR := h.hR }
theorem RJ.scan (h : RJ B R cap ta w0 wst o0 cs0 hi vb kind ns ks T w a bb pp v cs na nc ka kc) {a' bb' pp' : Nat} (f : Fr R none w w') (hs : RSc B R cap ta w0 w' a' bb' pp' v) :
    RJ B R cap ta w0 wst o0 cs0 hi vb kind ns ks T w' a' bb' pp' v cs na nc ka kc :=
  h.keep f.weak (h.st.scan f hs) (Moved.refl _ _) (New.refl _ _) (Nat.le_refl _)

/-- A kid is put to the open value. -/
theorem RJ.addKid (h : RJ B R cap ta w0 wst o0 cs0 hi vb kind ns ks T w a bb pp v cs na nc ka kc) {w3 : World} {b : Obj} {ka3 : Option Addr} {kc3 x : Nat} (hle : ks.length ≤ T.length) (hnn : ns.length ≤ ks.length + 2)
    (hown : w3.ownsRow 0 3 1 (.slice ka3 (ks ++ [x]).length kc3) (ks ++ [x]).length ((ks ++ [x]).map natv)) (hg : (w.alloc b).grownBy w3 (Value.slice ka ks.length kc).ownBlock)
    (hm : Moved (w.alloc b).heap.size (Value.slice ka ks.length kc).ownBlock (Value.slice ka3 (ks ++ [x]).length kc3).ownBlock) :
    RJ B R cap ta w0 wst o0 cs0 hi vb kind ns (ks ++ [x]) T (w3.setCell ⟨vb, 5, none⟩ (.slice ka3 (ks ++ [x]).length kc3)) a bb pp v cs na nc ka3 kc3 := by
  have hs := h.fr.size
  have hsz : w.heap.size ≤ w3.heap.size := Nat.le_trans (by simp) hg.size
  have same3 : ∀ k, k < w.heap.size → (Value.slice ka ks.length kc).ownBlock ≠ some k → w3.heap[k]? = w.heap[k]? := fun k hk hne => by
    rw [hg.block k (by simp; omega) (fun e => hne e.symm)]
    exact Below.heap_alloc w b k hk
  have same : ∀ k, k < w.heap.size → (Value.slice ka ks.length kc).ownBlock ≠ some k → k ≠ vb → (w3.setCell ⟨vb, 5, none⟩ (.slice ka3 (ks ++ [x]).length kc3)).heap[k]? = w.heap[k]? := fun k hk hne hv => by
    rw [heap_setCell_other _ _ k _ hv]
    exact same3 k hk hne
  have neTy : ∀ g t, TyOf w g t → t ≠ 3 → (Value.slice ka ks.length kc).ownBlock ≠ some g := fun g t hg ht e => hg.ne (h.tyK g e) ht rfl
  have old : ∀ k, k < wst.heap.size → (Value.slice ka ks.length kc).ownBlock ≠ some k ∧ k ≠ vb := fun k hk => ⟨fun e => by have := h.knew k e; have := h.hilo; omega, by have := h.hvb; omega⟩
  have hvb3 : w3.heap[vb]? = _ := (same3 vb h.tyV.lt (neTy vb 42 h.tyV (by decide))).trans h.vbk
  have hk3 : ∀ g, (Value.slice ka3 (ks ++ [x]).length kc3).ownBlock = some g → g ≠ vb := fun g e => (own_ty hown g e).ne ⟨_, _, hvb3⟩ (by decide)
  exact {
    st := h.st.beside (hg.os) (hg.tape) (hg.output) (by simpa [World.setCell] using hsz)
      (fun k hk => same k (by have := h.hR; omega) (old k (by have := h.hR; omega)).1 (old k (by have := h.hR; omega)).2)
      (fun g e => same g (h.st.ownLt g e) (neTy g 42 (h.st.tyO g e) (by decide)) (fun e2 => h.vne (by rw [e, e2])))
      (fun g hc => same g (h.st.reps.lt g hc) (fun e => h.ksep g e hc) (by
        rcases h.st.reps.ty g hc with t | t
        · exact t.ne h.tyV (by decide)
        · exact t.ne h.tyV (by decide)))
    vbk := by
      have := heap_setCell_same w3 vb 5 _ _ (.slice ka3 (ks ++ [x]).length kc3) hvb3
      rw [this]; rfl
    own := ⟨own_eq h.own.names (fun g e => same g (h.tyN g e).lt (neTy g 9 (h.tyN g e) (by decide)) ((h.tyN g e).ne h.tyV (by decide))),
      ownsRow_setCell_other hown (fun e => hk3 _ e rfl) _⟩
    fr := ⟨(hg.os).trans h.fr.os, (hg.tape).trans h.fr.tape, (hg.output).trans h.fr.output, by simpa [World.setCell] using Nat.le_trans hs hsz, fun k hk hR ho => (same k (by omega) (old k hk).1 (old k hk).2).trans (h.fr.block k hk hR ho)⟩
    mv := h.mv
    hilo := h.hilo
    hisz := by simpa [World.setCell] using Nat.le_trans h.hisz hsz
    olt := h.olt
    vhi := h.vhi
    vne := h.vne
    nnew := h.nnew
    knew := fun g e => by
      rcases hm with e2 | ⟨g2, e2, hg2⟩
      · exact h.knew g (by rw [← e2]; exact e)
      · rw [e] at e2; cases e2; simp at hg2; have := h.hisz; omega
    nsep := h.nsep
    ksep := fun g e hc => by
      rcases hm with e2 | ⟨g2, e2, hg2⟩
      · exact h.ksep g (by rw [← e2]; exact e) hc
      · rw [e] at e2; cases e2; have := h.st.reps.lt g hc; simp at hg2; omega
    new := h.new
    le := by simp; omega
    nle := by simp; omega
    hvb := h.hvb
    hR := h.hR }
theorem RJ.addName (h : RJ B R cap ta w0 wst o0 cs0 hi vb kind ns ks T w a bb pp v cs na nc ka kc) {w3 : World} {b : Obj} {ka3 : Option Addr} {kc3 : Nat} {x : List UInt8} (hle : ns.length ≤ ks.length)
    (hown : w3.ownsRow 0 9 1 (.slice ka3 (ns ++ [x]).length kc3) (ns ++ [x]).length ((ns ++ [x]).map strv)) (hg : (w.alloc b).grownBy w3 (Value.slice na ns.length nc).ownBlock)
    (hm : Moved (w.alloc b).heap.size (Value.slice na ns.length nc).ownBlock (Value.slice ka3 (ns ++ [x]).length kc3).ownBlock) :
    RJ B R cap ta w0 wst o0 cs0 hi vb kind (ns ++ [x]) ks T (w3.setCell ⟨vb, 4, none⟩ (.slice ka3 (ns ++ [x]).length kc3)) a bb pp v cs ka3 kc3 ka kc := by
  have hs := h.fr.size
  have hsz : w.heap.size ≤ w3.heap.size := Nat.le_trans (by simp) hg.size
  have same3 : ∀ k, k < w.heap.size → (Value.slice na ns.length nc).ownBlock ≠ some k → w3.heap[k]? = w.heap[k]? := fun k hk hne => by
    rw [hg.block k (by simp; omega) (fun e => hne e.symm)]
    exact Below.heap_alloc w b k hk
  have same : ∀ k, k < w.heap.size → (Value.slice na ns.length nc).ownBlock ≠ some k → k ≠ vb → (w3.setCell ⟨vb, 4, none⟩ (.slice ka3 (ns ++ [x]).length kc3)).heap[k]? = w.heap[k]? := fun k hk hne hv => by
    rw [heap_setCell_other _ _ k _ hv]
    exact same3 k hk hne
  have neTy : ∀ g t, TyOf w g t → t ≠ 9 → (Value.slice na ns.length nc).ownBlock ≠ some g := fun g t hg ht e => hg.ne (h.tyN g e) ht rfl
  have old : ∀ k, k < wst.heap.size → (Value.slice na ns.length nc).ownBlock ≠ some k ∧ k ≠ vb := fun k hk => ⟨fun e => by have := h.nnew k e; have := h.hilo; omega, by have := h.hvb; omega⟩
  have hvb3 : w3.heap[vb]? = _ := (same3 vb h.tyV.lt (neTy vb 42 h.tyV (by decide))).trans h.vbk
  have hk3 : ∀ g, (Value.slice ka3 (ns ++ [x]).length kc3).ownBlock = some g → g ≠ vb := fun g e => (own_ty hown g e).ne ⟨_, _, hvb3⟩ (by decide)
  exact {
    st := h.st.beside (hg.os) (hg.tape) (hg.output) (by simpa [World.setCell] using hsz)
      (fun k hk => same k (by have := h.hR; omega) (old k (by have := h.hR; omega)).1 (old k (by have := h.hR; omega)).2)
      (fun g e => same g (h.st.ownLt g e) (neTy g 42 (h.st.tyO g e) (by decide)) (fun e2 => h.vne (by rw [e, e2])))
      (fun g hc => same g (h.st.reps.lt g hc) (fun e => h.nsep g e hc) (by
        rcases h.st.reps.ty g hc with t | t
        · exact t.ne h.tyV (by decide)
        · exact t.ne h.tyV (by decide)))
    vbk := by
      have := heap_setCell_same w3 vb 4 _ _ (.slice ka3 (ns ++ [x]).length kc3) hvb3
      rw [this]; rfl
    own := ⟨ownsRow_setCell_other hown (fun e => hk3 _ e rfl) _,
      own_eq h.own.kids (fun g e => same g (h.tyK g e).lt (neTy g 3 (h.tyK g e) (by decide)) ((h.tyK g e).ne h.tyV (by decide)))⟩
    fr := ⟨(hg.os).trans h.fr.os, (hg.tape).trans h.fr.tape, (hg.output).trans h.fr.output, by simpa [World.setCell] using Nat.le_trans hs hsz, fun k hk hR ho => (same k (by omega) (old k hk).1 (old k hk).2).trans (h.fr.block k hk hR ho)⟩
    mv := h.mv
    hilo := h.hilo
    hisz := by simpa [World.setCell] using Nat.le_trans h.hisz hsz
    olt := h.olt
    vhi := h.vhi
    vne := h.vne
    knew := h.knew
    nnew := fun g e => by
      rcases hm with e2 | ⟨g2, e2, hg2⟩
      · exact h.nnew g (by rw [← e2]; exact e)
      · rw [e] at e2; cases e2; simp at hg2; have := h.hisz; omega
    ksep := h.ksep
    nsep := fun g e hc => by
      rcases hm with e2 | ⟨g2, e2, hg2⟩
      · exact h.nsep g (by rw [← e2]; exact e) hc
      · rw [e] at e2; cases e2; have := h.st.reps.lt g hc; simp at hg2; omega
    new := h.new
    le := h.le
    nle := by simp; omega
    hvb := h.hvb
    hR := h.hR }

end
end Go.Proofs.YtkpfiopgnobcdaaDoor
