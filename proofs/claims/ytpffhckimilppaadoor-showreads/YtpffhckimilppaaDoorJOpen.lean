/-
  A list or object that is being read: what its memory holds, and what each step leaves of it.
-/
import Derived.Test.YtpffhckimilppaaDoorJEach
namespace Go.Proofs.YtpffhckimilppaaDoor.Js
open Go.RowKit

theorem own_eq {w w' : World} {base : Nat} {e : TypeId} {size : Nat} {v : Value} {n : Nat} {xs : List Value} (h : w.ownsRow base e size v n xs) (hb : ∀ g, v.ownBlock = some g → w'.heap[g]? = w.heap[g]?) : w'.ownsRow base e size v n xs := by
  obtain ⟨h1, h2⟩ := h
  refine ⟨h1, ?_⟩
  rcases h2 with h2 | ⟨g, cap, cur, hv, hg, hh, r⟩
  · exact .inl h2
  · subst hv
    exact .inr ⟨g, cap, cur, rfl, hg, by rw [hb g rfl]; exact hh, r⟩
theorem own_ty {w : World} {base : Nat} {e : TypeId} {size : Nat} {v : Value} {n : Nat} {xs : List Value} (h : w.ownsRow base e size v n xs) (g : Nat) (hg : v.ownBlock = some g) : TyOf w g e := by
  rcases h.2 with ⟨rfl, _⟩ | ⟨g', cap, cur, rfl, _, hh, _⟩
  · cases hg
  · cases hg; exact ⟨_, _, hh⟩
theorem TyOf.ne {w : World} {g k : Nat} {s t : TypeId} (h : TyOf w g s) (k' : TyOf w k t) (hst : s ≠ t) : g ≠ k := by
  rintro rfl
  obtain ⟨c, f, hc⟩ := h
  obtain ⟨c', f', hc'⟩ := k'
  rw [hc] at hc'
  simp only [Option.some.injEq, Obj.cells.injEq] at hc'
  exact hst hc'.2.1
theorem TyOf.lt {w : World} {g : Nat} {t : TypeId} (h : TyOf w g t) : g < w.heap.size := by obtain ⟨c, f, hc⟩ := h; exact lt_of_block hc
theorem TyOf.eq {w w' : World} {g : Nat} {t : TypeId} (h : TyOf w g t) (hb : w'.heap[g]? = w.heap[g]?) : TyOf w' g t := by obtain ⟨c, f, hc⟩ := h; exact ⟨c, f, hb.trans hc⟩
theorem Has.mem_left {a b : List Value} {g : Nat} (h : Has a g) : Has (a ++ b) g := by obtain ⟨u, hu, e⟩ := h; exact ⟨u, List.mem_append_left _ hu, e⟩
theorem Has.mem_right {a b : List Value} {g : Nat} (h : Has b g) : Has (a ++ b) g := by obtain ⟨u, hu, e⟩ := h; exact ⟨u, List.mem_append_right _ hu, e⟩
theorem VOwn.eq {w w' : World} {x : V} {nv kv : Value} (h : VOwn w x nv kv) (hn : ∀ g, nv.ownBlock = some g → w'.heap[g]? = w.heap[g]?) (hk : ∀ g, kv.ownBlock = some g → w'.heap[g]? = w.heap[g]?) : VOwn w' x nv kv :=
  ⟨own_eq h.names hn, own_eq h.kids hk⟩
theorem Reps.eq {w w' : World} : ∀ {T : List V} {cs : List Value}, Reps w cs T → (∀ g, Has cs g → w'.heap[g]? = w.heap[g]?) → Reps w' cs T
  | [], cs, h, _ => h
  | y :: T, cs, h, hb => by
    obtain ⟨n1, k1, rest, rfl, hy, hr⟩ := h
    exact ⟨n1, k1, rest, rfl, hy.eq (fun g e => hb g ⟨n1, by simp [aggL], e⟩) (fun g e => hb g ⟨k1, by simp [aggL], e⟩), Reps.eq hr (fun g hg => hb g hg.mem_right)⟩
theorem Reps.ty {w : World} : ∀ {T : List V} {cs : List Value}, Reps w cs T → ∀ g, Has cs g → TyOf w g 9 ∨ TyOf w g 3
  | [], cs, h, g, hg => by obtain rfl := h; obtain ⟨u, hu, _⟩ := hg; cases hu
  | y :: T, cs, h, g, hg => by
    obtain ⟨n1, k1, rest, rfl, hy, hr⟩ := h
    obtain ⟨u, hu, e⟩ := hg
    rcases List.mem_append.1 hu with hu | hu
    · simp only [aggL, List.mem_cons, List.not_mem_nil, or_false] at hu
      rcases hu with rfl | rfl | rfl | rfl | rfl | rfl
      · cases e
      · cases e
      · cases e
      · cases e
      · exact .inl (own_ty hy.names g e)
      · exact .inr (own_ty hy.kids g e)
    · exact Reps.ty hr g ⟨u, hu, e⟩

section
variable {B : List UInt8} {R tb toff cap : Nat} {w0 w w' : World} {a d : Nat} {v : Value} {T : List V} {cs : List Value}
/-- Beside a reading: what it has is as it was. -/
theorem St.beside (h : St B R tb toff cap w0 w a d v T cs) (hos : w'.os = w.os) (htape : w'.tape = w.tape) (hout : w'.output = w.output) (hsize : w.heap.size ≤ w'.heap.size)
    (hR : ∀ k, k ≤ R → w'.heap[k]? = w.heap[k]?) (hv : ∀ g, v.ownBlock = some g → w'.heap[g]? = w.heap[g]?) (hc : ∀ g, Has cs g → w'.heap[g]? = w.heap[g]?) : St B R tb toff cap w0 w' a d v T cs :=
  ⟨⟨h.sc.below.trans ⟨hos, htape, hout, hsize, fun k hk => hR k (by omega)⟩, by have := h.sc.rd; unfold Rd at this ⊢; rw [hR R (Nat.le_refl _)]; exact this, h.sc.at_le⟩, own_eq h.own hv, h.reps.eq hc, h.le⟩

/-- A list or object that is being read: of the kind, with these names and kids so far; wst: the world in which it began. -/
structure JG (B : List UInt8) (R tb toff cap : Nat) (w0 : World) (d : Nat) (wst : World) (o0 : Option Nat) (cs0 : List Value) (hi mb : Nat) (wX : World) (vb rb kind : Nat) (ns : List (List UInt8)) (ks : List Nat) (T : List V) (w : World) (a : Nat) (v : Value)
    (cs : List Value) (na : Option Addr) (nc : Nat) (ka : Option Addr) (kc : Nat) : Prop where
  st : St B R tb toff cap w0 w a d v T cs
  vbk : w.heap[vb]? = some (.cells #[.int .i64 kind, .bool false, .int .i64 0, .string ⟨#[]⟩, .slice na ns.length nc, .slice ka ks.length kc] 42 (0, 0))
  own : VOwn w { names := ns, kids := ks } (.slice na ns.length nc) (.slice ka ks.length kc)
  rbk : w.heap[rb]? = some (.cells #[.pointer (some ⟨R, 0, none⟩)] 67 (0, 0))
  fr : Fr R o0 wst w
  mv : Moved hi o0 v.ownBlock
  mid : ∀ k, wst.heap.size ≤ k → k < hi → k ≠ vb → k ≠ mb → w.heap[k]? = wX.heap[k]?
  hilo : wst.heap.size ≤ hi
  hisz : hi ≤ w.heap.size
  olt : ∀ g, o0 = some g → g < wst.heap.size
  vhi : vb < hi
  rhi : rb < hi
  vne : v.ownBlock ≠ some vb
  nnew : NewRow hi (.slice na ns.length nc)
  knew : NewRow hi (.slice ka ks.length kc)
  nsep : ∀ g, (Value.slice na ns.length nc).ownBlock = some g → ¬ Has cs g
  ksep : ∀ g, (Value.slice ka ks.length kc).ownBlock = some g → ¬ Has cs g
  new : New wst.heap.size cs0 cs
  le : ks.length ≤ T.length
  nle : ns.length ≤ ks.length + 1
  hvb : wst.heap.size ≤ vb
  hrb : wst.heap.size ≤ rb
  hR : R < wst.heap.size
variable {wst wX : World} {o0 : Option Nat} {cs0 : List Value} {hi mb vb rb kind : Nat} {ns : List (List UInt8)} {ks : List Nat} {na ka : Option Addr} {nc kc : Nat}

theorem JG.tyV (h : JG B R tb toff cap w0 d wst o0 cs0 hi mb wX vb rb kind ns ks T w a v cs na nc ka kc) : TyOf w vb 42 := ⟨_, _, h.vbk⟩
theorem JG.tyRb (h : JG B R tb toff cap w0 d wst o0 cs0 hi mb wX vb rb kind ns ks T w a v cs na nc ka kc) : TyOf w rb 67 := ⟨_, _, h.rbk⟩
theorem JG.tyN (h : JG B R tb toff cap w0 d wst o0 cs0 hi mb wX vb rb kind ns ks T w a v cs na nc ka kc) (g : Nat) (hg : (Value.slice na ns.length nc).ownBlock = some g) : TyOf w g 9 := own_ty h.own.names g hg
theorem JG.tyK (h : JG B R tb toff cap w0 d wst o0 cs0 hi mb wX vb rb kind ns ks T w a v cs na nc ka kc) (g : Nat) (hg : (Value.slice ka ks.length kc).ownBlock = some g) : TyOf w g 3 := own_ty h.own.kids g hg

theorem JG.vout (h : JG B R tb toff cap w0 d wst o0 cs0 hi mb wX vb rb kind ns ks T w a v cs na nc ka kc) (k : Nat) (h1 : wst.heap.size ≤ k) (h2 : k < hi) : v.ownBlock ≠ some k := by
  intro e
  rcases h.mv with e2 | ⟨g, e2, hg⟩
  · rw [e2] at e; have := h.olt k e; omega
  · rw [e2] at e; cases e; omega
/-- Other memory turned: what the open value has is as it was. -/
theorem JG.keep (h : JG B R tb toff cap w0 d wst o0 cs0 hi mb wX vb rb kind ns ks T w a v cs na nc ka kc) {a' d' : Nat} {v' : Value} {T' : List V} {cs' : List Value} (f : Fr R v.ownBlock w w') (hst : St B R tb toff cap w0 w' a' d' v' T' cs') (hm : Moved w.heap.size v.ownBlock v'.ownBlock) (hn : New w.heap.size cs cs') (hT : T.length ≤ T'.length) :
    JG B R tb toff cap w0 d' wst o0 cs0 hi mb wX vb rb kind ns ks T' w' a' v' cs' na nc ka kc := by
  have hs := h.fr.size
  have hne : ∀ g t, TyOf w g t → t ≠ 62 → t ≠ 42 → w'.heap[g]? = w.heap[g]? := fun g t hg h1 h2 =>
    f.block g hg.lt (hg.ne h.st.tyR h1) (fun e => hg.ne (h.st.tyO g e) h2 rfl)
  have hvb : w'.heap[vb]? = w.heap[vb]? := f.block vb h.tyV.lt (by have := h.hvb; have := h.hR; omega) h.vne
  exact {
    st := hst
    vbk := hvb.trans h.vbk
    own := h.own.eq (fun g e => hne g 9 (h.tyN g e) (by decide) (by decide)) (fun g e => hne g 3 (h.tyK g e) (by decide) (by decide))
    rbk := (hne rb 67 h.tyRb (by decide) (by decide)).trans h.rbk
    fr := h.fr.trans f (h.mv.le h.hilo)
    mv := h.mv.trans hm h.hisz
    mid := fun k h1 h2 h3 h4 => by
      have := h.hisz; have := h.hR
      rw [f.block k (by omega) (by omega) (h.vout k h1 h2)]
      exact h.mid k h1 h2 h3 h4
    hilo := h.hilo
    hisz := Nat.le_trans h.hisz f.size
    olt := h.olt
    vhi := h.vhi
    rhi := h.rhi
    vne := by
      rcases hm with e | ⟨g, e, hg⟩
      · rw [e]; exact h.vne
      · rw [e]; intro e2; cases e2; have := h.tyV.lt; omega
    nnew := h.nnew
    knew := h.knew
    nsep := fun g e hc => by
      rcases hn g hc with h1 | h1
      · exact h.nsep g e h1
      · have := (h.tyN g e).lt; omega
    ksep := fun g e hc => by
      rcases hn g hc with h1 | h1
      · exact h.ksep g e h1
      · have := (h.tyK g e).lt; omega
    new := h.new.trans hn hs
    le := Nat.le_trans h.le hT
    nle := h.nle
    hvb := h.hvb
    hrb := h.hrb
    hR := h.hR }
theorem JG.scan (h : JG B R tb toff cap w0 d wst o0 cs0 hi mb wX vb rb kind ns ks T w a v cs na nc ka kc) {a' d' : Nat} (f : Fr R none w w') (hs : Sc B R tb toff cap w0 w' a' d' v) :
    JG B R tb toff cap w0 d' wst o0 cs0 hi mb wX vb rb kind ns ks T w' a' v cs na nc ka kc :=
  h.keep f.weak (h.st.scan f hs) (Moved.refl _ _) (New.refl _ _) (Nat.le_refl _)

theorem sixth (c0 c1 c2 c3 c4 c5 u : Value) : (#[c0, c1, c2, c3, c4, c5] : Array Value).set! 5 u = #[c0, c1, c2, c3, c4, u] := rfl
theorem fifth (c0 c1 c2 c3 c4 c5 u : Value) : (#[c0, c1, c2, c3, c4, c5] : Array Value).set! 4 u = #[c0, c1, c2, c3, u, c5] := rfl

/-- A kid is put to the open value. -/
theorem JG.addKid (h : JG B R tb toff cap w0 d wst o0 cs0 hi mb wX vb rb kind ns ks T w a v cs na nc ka kc) {w3 : World} {b : Obj} {ka3 : Option Addr} {kc3 x : Nat} (hle : ks.length < T.length) (hnn : ns.length ≤ ks.length + 2)
    (hown : w3.ownsRow 0 3 1 (.slice ka3 (ks ++ [x]).length kc3) (ks ++ [x]).length ((ks ++ [x]).map natv)) (hg : (w.alloc b).grownBy w3 (Value.slice ka ks.length kc).ownBlock)
    (hm : Moved (w.alloc b).heap.size (Value.slice ka ks.length kc).ownBlock (Value.slice ka3 (ks ++ [x]).length kc3).ownBlock) :
    JG B R tb toff cap w0 d wst o0 cs0 hi mb wX vb rb kind ns (ks ++ [x]) T (w3.setCell ⟨vb, 5, none⟩ (.slice ka3 (ks ++ [x]).length kc3)) a v cs na nc ka3 kc3 := by
  have hs := h.fr.size
  have hsz : w.heap.size ≤ w3.heap.size := Nat.le_trans (by simp) hg.size
  have same3 : ∀ k, k < w.heap.size → (Value.slice ka ks.length kc).ownBlock ≠ some k → w3.heap[k]? = w.heap[k]? := fun k hk hne => by
    rw [hg.block k (by simp; omega) (fun e => hne e.symm)]
    exact Below.heap_alloc w b k hk
  have same : ∀ k, k < w.heap.size → (Value.slice ka ks.length kc).ownBlock ≠ some k → k ≠ vb → (w3.setCell ⟨vb, 5, none⟩ (.slice ka3 (ks ++ [x]).length kc3)).heap[k]? = w.heap[k]? := fun k hk hne hv => by
    rw [heap_setCell_other _ _ k _ hv]
    exact same3 k hk hne
  have neTy : ∀ g t, TyOf w g t → t ≠ 3 → (Value.slice ka ks.length kc).ownBlock ≠ some g := fun g t hg ht e => hg.ne (h.tyK g e) ht rfl
  have old : ∀ k, k < wst.heap.size → (Value.slice ka ks.length kc).ownBlock ≠ some k ∧ k ≠ vb := fun k hk => ⟨fun e => by have := h.knew k e; have := h.hilo; omega, by have := h.hvb; omega⟩
  have hvb3 : w3.heap[vb]? = _ := (same3 vb h.tyV.lt (neTy vb 42 h.tyV (by decide))).trans h.vbk
  have hk3 : ∀ g, (Value.slice ka3 (ks ++ [x]).length kc3).ownBlock = some g → g ≠ vb := fun g e => (own_ty hown g e).ne ⟨_, _, hvb3⟩ (by decide)
  exact {
    st := h.st.beside (hg.os) (hg.tape) (hg.output) (by simpa [World.setCell] using hsz)
      (fun k hk => same k (by have := h.hR; omega) (old k (by have := h.hR; omega)).1 (old k (by have := h.hR; omega)).2)
      (fun g e => same g (h.st.ownLt g e) (neTy g 42 (h.st.tyO g e) (by decide)) (fun e2 => h.vne (by rw [e, e2])))
      (fun g hc => same g (h.st.reps.lt g hc) (fun e => h.ksep g e hc) (by
        rcases h.st.reps.ty g hc with t | t
        · exact t.ne h.tyV (by decide)
        · exact t.ne h.tyV (by decide)))
    vbk := by
      have := heap_setCell_same w3 vb 5 _ _ (.slice ka3 (ks ++ [x]).length kc3) hvb3
      rw [this]; rfl
    own := ⟨own_eq h.own.names (fun g e => same g (h.tyN g e).lt (neTy g 9 (h.tyN g e) (by decide)) ((h.tyN g e).ne h.tyV (by decide))),
      ownsRow_setCell_other hown (fun e => hk3 _ e rfl) _⟩
    rbk := (same rb h.tyRb.lt (neTy rb 67 h.tyRb (by decide)) (h.tyRb.ne h.tyV (by decide))).trans h.rbk
    fr := ⟨(hg.os).trans h.fr.os, (hg.tape).trans h.fr.tape, (hg.output).trans h.fr.output, by simpa [World.setCell] using Nat.le_trans hs hsz, fun k hk hR ho => (same k (by omega) (old k hk).1 (old k hk).2).trans (h.fr.block k hk hR ho)⟩
    mv := h.mv
    mid := fun k h1 h2 h3 h4 => (same k (Nat.lt_of_lt_of_le h2 h.hisz) (fun e => by have := h.knew k e; omega) h3).trans (h.mid k h1 h2 h3 h4)
    hilo := h.hilo
    hisz := by simpa [World.setCell] using Nat.le_trans h.hisz hsz
    olt := h.olt
    vhi := h.vhi
    rhi := h.rhi
    vne := h.vne
    nnew := h.nnew
    knew := fun g e => by
      rcases hm with e2 | ⟨g2, e2, hg2⟩
      · exact h.knew g (by rw [← e2]; exact e)
      · rw [e] at e2; cases e2; simp at hg2; have := h.hisz; omega
    nsep := h.nsep
    ksep := fun g e hc => by
      rcases hm with e2 | ⟨g2, e2, hg2⟩
      · exact h.ksep g (by rw [← e2]; exact e) hc
      · rw [e] at e2; cases e2; have := h.st.reps.lt g hc; simp at hg2; omega
    new := h.new
    le := by simp; omega
    nle := by simp; omega
    hvb := h.hvb
    hrb := h.hrb
    hR := h.hR }
end
end Go.Proofs.YtpffhckimilppaaDoor.Js