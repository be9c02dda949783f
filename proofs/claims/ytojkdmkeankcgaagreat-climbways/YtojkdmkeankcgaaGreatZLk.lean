/-
  Several texts in one.
-/
import Derived.Test.YtojkdmkeankcgaaGreatZSq
import Derived.Test.YtojkdmkeankcgaaGreatZEb
import Derived.Test.YtojkdmkeankcgaaGreatZGg
/-  What Links of a lifted graph answers: the links of all places. -/
namespace Go.Proofs.YtojkdmkeankcgaaGreat
open Go.RowKit Go.Sort

def linksL (n : Nat) (U V : Mx) (i : Nat) : List Lnk := (List.range i).flatMap fun p => upL n U p ++ dnL n V p
theorem linksL_succ (n : Nat) (U V : Mx) (i : Nat) : linksL n U V (i + 1) = (linksL n U V i ++ upL n U i) ++ dnL n V i := by
  unfold linksL
  rw [List.range_succ, List.flatMap_append]
  simp
theorem upL_len (n : Nat) (U : Mx) (p : Nat) : (upL n U p).length ≤ n := Nat.le_trans (List.length_filterMap_le _ _) (by simp)
theorem dnL_len (n : Nat) (V : Mx) (p : Nat) : (dnL n V p).length ≤ n := Nat.le_trans (List.length_filterMap_le _ _) (by simp)
theorem linksL_len (n : Nat) (U V : Mx) (i : Nat) : (linksL n U V i).length ≤ i * (n + n) := by
  induction i with
  | zero => simp [linksL]
  | succ i ih =>
    rw [linksL_succ, List.length_append, List.length_append, Nat.succ_mul]
    have := upL_len n U i
    have := dnL_len n V i
    omega
/-- While Links runs. -/
structure LkIn (n : Nat) (w : World) (L : List Lnk) (va : Option Addr) (vc : Nat) (wr : World) : Prop where
  row : LRow wr w.heap.size (.slice va L.length vc) L
  below : Below w.heap.size w wr
end Go.Proofs.YtojkdmkeankcgaaGreat
/-  What the fixed facts of chapter 7 (Awake) do; which links a lifted graph has. -/
namespace Go.Proofs.YtojkdmkeankcgaaGreat
open Go.RowKit Go.Sort

theorem tab_loop (mt : Arc → Int) (A : List Arc) (a : Nat) : tab (legsM mt A) a a = none := by
  refine tab_none.2 fun l hl e => ?_
  unfold legsM at hl
  obtain ⟨x, hx, rfl⟩ := List.mem_map.1 hl
  have := (List.mem_filter.1 hx).2
  simp only at e
  exact of_decide_eq_true this (by omega)
section
variable {n : Nat} {W : Nat → Nat → Option Int} {K : Mx} {rk : Nat → Nat} {Q : Nat → Option Int} {rv : Nat → Int}
theorem mem_upL {U : Mx} {p : Nat} {k : Lnk} : k ∈ upL n U p ↔ k.1 = p ∧ k.2.1 < n ∧ U p k.2.1 = some k.2.2 := by
  unfold upL
  rw [List.mem_filterMap]
  constructor
  · rintro ⟨q, hq, e⟩
    cases h : U p q with
    | none => rw [h] at e; cases e
    | some v => rw [h] at e; cases e; exact ⟨rfl, List.mem_range.1 hq, h⟩
  · rintro ⟨h1, h2, h3⟩
    obtain ⟨a, c, v⟩ := k
    simp only at h1 h2 h3
    subst h1
    exact ⟨c, List.mem_range.2 h2, by rw [h3]; rfl⟩
theorem mem_dnL {V : Mx} {q : Nat} {k : Lnk} : k ∈ dnL n V q ↔ k.2.1 = q ∧ k.1 < n ∧ V k.1 q = some k.2.2 := by
  unfold dnL
  rw [List.mem_filterMap]
  constructor
  · rintro ⟨p, hp, e⟩
    cases h : V p q with
    | none => rw [h] at e; cases e
    | some v => rw [h] at e; cases e; exact ⟨rfl, List.mem_range.1 hp, h⟩
  · rintro ⟨h1, h2, h3⟩
    obtain ⟨a, c, v⟩ := k
    simp only at h1 h2 h3
    subst h1
    exact ⟨a, List.mem_range.2 h2, by rw [h3]; rfl⟩
theorem bd_ne (h : Bd n W n K rk Q rv) {a c : Nat} (ha : a < n) (hc : c < n) (hac : a ≠ c) : rk a < rk c ∨ rk c < rk a := by
  rcases Nat.lt_trichotomy (rk a) (rk c) with e | e | e
  · exact .inl e
  · exact absurd (h.lft.inj a c ha hc e (bd_all h a ha)) hac
  · exact .inr e
/-- The links are just those of K. -/
theorem mem_links (h : Bd n W n K rk Q rv) {k : Lnk} : k ∈ linksL n (upM K rk) (dnM K rk) n ↔ K k.1 k.2.1 = some k.2.2 := by
  obtain ⟨a, c, v⟩ := k
  unfold linksL
  rw [List.mem_flatMap]
  constructor
  · rintro ⟨p, hp, hm⟩
    rcases List.mem_append.1 hm with hm | hm
    · obtain ⟨h1, _, h3⟩ := mem_upL.1 hm
      simp only at h1 h3 ⊢
      subst h1
      unfold upM at h3
      split at h3
      · exact h3
      · cases h3
    · obtain ⟨h1, _, h3⟩ := mem_dnL.1 hm
      simp only at h1 h3 ⊢
      subst h1
      unfold dnM at h3
      split at h3
      · exact h3
      · cases h3
  · intro e
    simp only at e
    obtain ⟨x, m⟩ := v
    obtain ⟨ha, hc, hac, _⟩ := h.lft.lk a c x m e
    rcases bd_ne h ha hc hac with r | r
    · exact ⟨a, List.mem_range.2 ha, List.mem_append.2 (.inl (mem_upL.2 ⟨rfl, hc, by simp only; unfold upM; rw [if_pos (by omega)]; exact e⟩))⟩
    · exact ⟨c, List.mem_range.2 hc, List.mem_append.2 (.inr (mem_dnL.2 ⟨rfl, ha, by simp only; unfold dnM; rw [if_pos (by omega)]; exact e⟩))⟩
end
def exC : List Arc := [(0, 1, 7, 0)]
theorem exC_check : (checkM ((2 : Nat) : Int) exC).2 = 0 := by decide
def exV : Nat → Nat → Option Int := tab (legsM (mtM false) exC)
theorem exV_all : ∀ a : Nat, a < 2 → ∀ b : Nat, b < 2 → exV a b = if a = 0 ∧ b = 1 then some 7 else none := by decide
theorem exV_ok : WOk 2 exV := fun a b v ha hb h => by
  rw [exV_all a ha b hb] at h
  split at h
  · cases h; omega
  · cases h
theorem exC_at (w : World) : ArcsAt (w.alloc (.cells #[.int .i64 0, .int .i64 1, .int .i64 7, .int .i64 0] 54)) (some ⟨w.heap.size, 0, none⟩) 1 exC := by
  refine ⟨rfl, by omega, fun k hk => ⟨w.heap.size, 0, rfl, ?_⟩⟩
  have h := heap_alloc_new w (.cells #[.int .i64 0, .int .i64 1, .int .i64 7, .int .i64 0] 54)
  have hk4 : k = 0 := by omega
  subst hk4
  exact ⟨by rw [cell_of_row _ _ _ _ _ _ h]; rfl, by rw [cell_of_row _ _ _ _ _ _ h]; rfl, by rw [cell_of_row _ _ _ _ _ _ h]; rfl, by rw [cell_of_row _ _ _ _ _ _ h]; rfl⟩
theorem exC_links {K : Mx} {rk : Nat → Nat} {Q : Nat → Option Int} {rv : Nat → Int} (h : Bd 2 exV 2 K rk Q rv) : linksL 2 (upM K rk) (dnM K rk) 2 = [(0, 1, (7, -1))] := by
  have hr : ∀ a c x, resW 2 exV a c = some x → a = 0 ∧ c = 1 ∧ x = 7 := fun a c x e => by
    unfold resW at e
    split at e
    · rename_i hb
      rw [exV_all a hb.1 c hb.2] at e
      split at e
      · rename_i h2; cases e; exact ⟨h2.1, h2.2, rfl⟩
      · cases e
    · cases e
  have hK : ∀ a c x m, K a c = some (x, m) → a = 0 ∧ c = 1 ∧ x = 7 ∧ m = -1 := fun a c x m e => by
    obtain ⟨ha, hc, hac, _⟩ := h.lft.lk a c x m e
    rcases h.lft.mid a c x m e with ⟨h1, h2⟩ | ⟨d, hd, _, r1, r2, _⟩
    · obtain ⟨e1, e2, e3⟩ := hr a c x h2
      exact ⟨e1, e2, e3, h1⟩
    · have d1 : d ≠ a := fun e => by subst e; omega
      have d2 : d ≠ c := fun e => by subst e; omega
      omega
  have h01 : K 0 1 = some (7, -1) := by
    obtain ⟨y, h1, _⟩ := h.lft.edge 0 1 7 (by omega) (by omega) (by decide) (by omega)
    obtain ⟨m, e⟩ := wtM_some.1 h1
    obtain ⟨_, _, e3, e4⟩ := hK 0 1 y m e
    rw [e, e3, e4]
  have hno : ∀ a c, ¬ (a = 0 ∧ c = 1) → K a c = none := fun a c hn => by
    cases e : K a c with
    | none => rfl
    | some v => obtain ⟨x, m⟩ := v; obtain ⟨e1, e2, _⟩ := hK a c x m e; exact absurd ⟨e1, e2⟩ hn
  have k00 := hno 0 0 (by omega)
  have k10 := hno 1 0 (by omega)
  have k11 := hno 1 1 (by omega)
  rcases bd_ne h (a := 0) (c := 1) (by omega) (by omega) (by omega) with r | r
  · have a1 : rk 0 ≤ rk 1 := by omega
    have a2 : ¬ rk 1 ≤ rk 0 := by omega
    simp [linksL, upL, dnL, upM, dnM, List.range, List.range.loop, k00, k10, k11, h01, a1, a2]
  · have a1 : ¬ rk 0 ≤ rk 1 := by omega
    have a2 : rk 1 ≤ rk 0 := by omega
    simp [linksL, upL, dnL, upM, dnM, List.range, List.range.loop, k00, k10, k11, h01, a1, a2]
end Go.Proofs.YtojkdmkeankcgaaGreat
/-  What the laws of chapter 7 share: behind the calls of Graph and Build. -/
namespace Go.Proofs.YtojkdmkeankcgaaGreat
open Go.RowKit Go.Sort

/-- Behind Graph and Build. -/
structure L7 (B : Nat) (w : World) (n : Nat) (a : Option Addr) (m c : Nat) (A : List Arc) (g : Nat) (W : Nat → Nat → Option Int) (b tg tc lg lc Q : Nat) (bb : LfB) (rv : Nat → Int) (U V : Mx) (wr : World) : Prop where
  g3 : G3 B w n a m c A g W b tg tc lg lc Q wr
  lf : LfA n wr bb rv U V
section
variable {B n m c g b tg tc lg lc Q : Nat} {w wr w' : World} {a : Option Addr} {A : List Arc} {W : Nat → Nat → Option Int} {bb : LfB} {rv : Nat → Int} {U V : Mx}
theorem L7.later (h : L7 B w n a m c A g W b tg tc lg lc Q bb rv U V wr) (f : Below wr.heap.size wr w') : L7 B w n a m c A g W b tg tc lg lc Q bb rv U V w' := ⟨h.g3.later f, h.lf.later f⟩
theorem L7.drewN (h : L7 B w n a m c A g W b tg tc lg lc Q bb rv U V wr) (q : Nat) : L7 B w n a m c A g W b tg tc lg lc Q bb rv U V (wr.drewN q) := h.later (Qu.below_drewN (Below.refl _ _) q)
end
theorem L7.below {B n m c g b tg tc lg lc Q : Nat} {w wr : World} {a : Option Addr} {A : List Arc} {W : Nat → Nat → Option Int} {bb : LfB} {rv : Nat → Int} {U V : Mx} (h : L7 B w n a m c A g W b tg tc lg lc Q bb rv U V wr) : Below B w wr := h.g3.rin.below
/-- Of it: the lifted graph, and the box of the matrix. -/
structure L8 (B : Nat) (w : World) (n b lg lc Q : Nat) (bb : LfB) (rv : Nat → Int) (U V : Mx) (wr : World) : Prop where
  below : Below B w wr
  bx : wr.heap[b]? = some (.cells #[.int .i64 n, .slice (some ⟨lg, 0, none⟩) Q lc] 29 (0, 0))
  lf : LfA n wr bb rv U V
  wB : B ≤ wr.heap.size
section
variable {B n b lg lc Q : Nat} {w wr w' : World} {bb : LfB} {rv : Nat → Int} {U V : Mx}
theorem L8.later (h : L8 B w n b lg lc Q bb rv U V wr) (f : Below wr.heap.size wr w') : L8 B w n b lg lc Q bb rv U V w' :=
  ⟨h.below.trans (f.mono h.wB), (f.block _ (Array.getElem?_eq_some_iff.1 h.bx).1).trans h.bx, h.lf.later f, Nat.le_trans h.wB f.size⟩
theorem L8.drewN (h : L8 B w n b lg lc Q bb rv U V wr) (q : Nat) : L8 B w n b lg lc Q bb rv U V (wr.drewN q) := h.later (Qu.below_drewN (Below.refl _ _) q)
theorem L8.c0 (h : L8 B w n b lg lc Q bb rv U V wr) : wr.cell? ⟨b, 0, none⟩ = some (.int .i64 n) := by rw [cell_of_row _ b 0 _ _ _ h.bx]; rfl
/-- A store into a block that is none of these. -/
theorem L8.put (h : L8 B w n b lg lc Q bb rv U V wr) {sb t : Nat} {cs : Array Value} {fr : Nat × Nat} (hs : wr.heap[sb]? = some (.cells cs t fr)) (h1 : t ≠ 29) (h2 : t ≠ 96) (h3 : t ≠ 93) (h4 : t ≠ 3) (hB : B ≤ sb) (j : Nat) (v : Value) : L8 B w n b lg lc Q bb rv U V (wr.setCell ⟨sb, j, none⟩ v) := by
  have nc : ∀ {k t2 : Nat} {c2 : Array Value} {f2 : Nat × Nat}, wr.heap[k]? = some (.cells c2 t2 f2) → t2 ≠ t → k ≠ sb := fun hk ht e => by
    rw [e, hs] at hk
    simp only [Option.some.injEq, Obj.cells.injEq] at hk
    exact ht hk.2.1.symm
  refine ⟨h.below.setCell hB _, by rw [heap_setCell_other _ _ _ _ (nc h.bx (Ne.symm h1))]; exact h.bx, h.lf.of_blocks fun k hk => heap_setCell_other _ _ _ _ fun e => ?_, by simpa [World.setCell] using h.wB⟩
  rcases hk with e2 | e2 | e2 | e2 | ⟨q, hq, e2 | e2⟩
  · exact nc h.lf.box (Ne.symm h2) (e2.symm.trans e)
  · exact nc h.lf.rks (Ne.symm h4) (e2.symm.trans e)
  · exact nc h.lf.ups (Ne.symm h3) (e2.symm.trans e)
  · exact nc h.lf.dns (Ne.symm h3) (e2.symm.trans e)
  · exact (h.lf.mu q hq).ne_cells hs (e.symm.trans e2)
  · exact (h.lf.md q hq).ne_cells hs (e.symm.trans e2)
end
theorem L7.l8 {B n m c g b tg tc lg lc Q : Nat} {w wr : World} {a : Option Addr} {A : List Arc} {W : Nat → Nat → Option Int} {bb : LfB} {rv : Nat → Int} {U V : Mx} (h : L7 B w n a m c A g W b tg tc lg lc Q bb rv U V wr) (hB : B ≤ wr.heap.size) : L8 B w n (b + 1) lg lc Q bb rv U V wr := ⟨h.g3.rin.below, h.g3.ml.box, h.lf, hB⟩
section
variable {n : Nat} {W : Nat → Nat → Option Int} {K : Mx} {rk : Nat → Nat} {Q : Nat → Option Int} {rv : Nat → Int}
theorem up_mem (h : Bd n W n K rk Q rv) {p : Nat} {k : Lnk} (hk : k ∈ upL n (upM K rk) p) : k.1 = p ∧ k.2.1 < n ∧ rk p < rk k.2.1 ∧ K p k.2.1 = some k.2.2 := by
  obtain ⟨h1, h2, h3⟩ := mem_upL.1 hk
  unfold upM at h3
  split at h3
  · rename_i hle
    obtain ⟨r1, r2, r3⟩ := h.lft.rk'.lk p k.2.1 _ h3
    rcases bd_ne h r1 r2 r3 with e | e
    · exact ⟨h1, h2, e, h3⟩
    · omega
  · cases h3
theorem dn_mem (h : Bd n W n K rk Q rv) {p : Nat} {k : Lnk} (hk : k ∈ dnL n (dnM K rk) p) : k.2.1 = p ∧ k.1 < n ∧ rk p < rk k.1 ∧ K k.1 p = some k.2.2 := by
  obtain ⟨h1, h2, h3⟩ := mem_dnL.1 hk
  unfold dnM at h3
  split at h3
  · rename_i hle
    obtain ⟨r1, r2, r3⟩ := h.lft.rk'.lk k.1 p _ h3
    rcases bd_ne h r1 r2 r3 with e | e
    · omega
    · exact ⟨h1, h2, e, h3⟩
  · cases h3
end
end Go.Proofs.YtojkdmkeankcgaaGreat
