/-
  What the call of Build does: all places lifted, one by one.
-/
import Derived.Test.YtlflbjnglmbdeaaZEdges
import Derived.Test.YtlflbjnglmbdeaaZNe
namespace Go.Proofs.Ytlflbjnglmbdeaa
open Go.RowKit Go.Sort
open Qu (Pr)

/-! ### plain -/
def resW (n : Nat) (W : Nat → Nat → Option Int) : Nat → Nat → Option Int := fun a c => if a < n ∧ c < n then W a c else none
theorem edM_res (n : Nat) (W : Nat → Nat → Option Int) : edM n W = fun a c => (resW n W a c).map fun x => (x, -1) := by
  funext a c
  unfold edM resW
  split <;> rfl
theorem res_way {n : Nat} {W : Nat → Nat → Option Int} {a c : Nat} {d : Int} : Way n (resW n W) a c d ↔ Way n W a c d :=
  ⟨way_same fun a b x ha hb hx => by unfold resW at hx; rw [if_pos ⟨ha, hb⟩] at hx; exact hx, way_same fun a b x ha hb hx => by unfold resW; rw [if_pos ⟨ha, hb⟩]; exact hx⟩
/-- The keys behind a lift. -/
def stepQ (n : Nat) (K' : Mx) (rk' : Nat → Nat) (p : Nat) (Q : Nat → Option Int) : Nat → Option Int :=
  eaQ (bur n (upM K' rk') (dnM K' rk')) (fun a => (dnM K' rk' a p).isSome) (fun _ => false) (eaQ (bur n (upM K' rk') (dnM K' rk')) (fun c => (upM K' rk' p c).isSome) (fun _ => false) Q)
def firstQ (n : Nat) (K : Mx) (i : Nat) : Nat → Option Int := fun v => if v < i then some (bur n K K v : Int) else none
/-- So the places are lifted, one behind the other. -/
inductive BRun (n : Nat) (W : Nat → Nat → Option Int) : Nat → Mx → (Nat → Nat) → (Nat → Option Int) → Prop where
  | zero : BRun n W 0 (edM n W) (fun _ => n) (firstQ n (edM n W) n)
  | step {k p : Nat} {K K' : Mx} {rk : Nat → Nat} {Q Q1 : Nat → Option Int} : BRun n W k K rk Q → Next (bur n (upM K rk) (dnM K rk)) Q p Q1 → IsLift n K rk p K' → BRun n W (k + 1) K' (updN rk p k) (stepQ n K' (updN rk p k) p Q1)
theorem BRun.eq {n : Nat} {W : Nat → Nat → Option Int} {k : Nat} {K : Mx} {rk : Nat → Nat} {Q : Nat → Option Int} (h : BRun n W k K rk Q) : ∀ {K2 : Mx} {rk2 : Nat → Nat} {Q2 : Nat → Option Int}, BRun n W k K2 rk2 Q2 → K = K2 ∧ rk = rk2 ∧ Q = Q2 := by
  induction h with
  | zero => intro K2 rk2 Q2 h2; cases h2; exact ⟨rfl, rfl, rfl⟩
  | step _ hn hl ih =>
    intro K2 rk2 Q2 h2
    cases h2 with
    | step h3 hn3 hl3 =>
      obtain ⟨rfl, rfl, rfl⟩ := ih h3
      obtain ⟨rfl, rfl⟩ := hn.eq hn3
      have := hl.eq hl3
      subst this
      exact ⟨rfl, rfl, rfl⟩
def waitsN (n : Nat) (rk : Nat → Nat) : Nat → Option Unit := fun v => if rk v = n then some () else none
theorem num_none {α : Type} {F : Nat → Option α} : ∀ n, num F n = 0 → ∀ v, v < n → F v = none
  | 0, _, v, hv => absurd hv (Nat.not_lt_zero _)
  | n + 1, h, v, hv => by
    rw [num] at h
    by_cases e : v = n
    · subst e
      cases hF : F v with
      | none => rfl
      | some x => rw [hF] at h; simp at h
    · exact num_none n (by omega) v (by omega)
theorem num_some {α : Type} {F : Nat → Option α} : ∀ n, 0 < num F n → ∃ v, v < n ∧ (F v).isSome = true
  | 0, h => absurd h (Nat.lt_irrefl _)
  | n + 1, h => by
    rw [num] at h
    by_cases e : (F n).isSome = true
    · exact ⟨n, by omega, e⟩
    · obtain ⟨v, h1, h2⟩ := num_some n (by simp [e] at h; exact h)
      exact ⟨v, by omega, h2⟩
/-- Between two lifts. -/
structure Bd (n : Nat) (W : Nat → Nat → Option Int) (k : Nat) (K : Mx) (rk : Nat → Nat) (Q : Nat → Option Int) (rv : Nat → Int) : Prop where
  run : BRun n W k K rk Q
  lft : Lft n (resW n W) k K rk
  dom : ∀ v, (Q v).isSome = true ↔ v < n ∧ rk v = n
  cnt : num (waitsN n rk) n + k = n
  rvs : ∀ p, p < n → rk p < n → rv p = (rk p : Int)
theorem num_full {α : Type} {F : Nat → Option α} : ∀ n, (∀ v, v < n → (F v).isSome = true) → num F n = n
  | 0, _ => rfl
  | n + 1, h => by rw [num, num_full n (fun v hv => h v (by omega)), h n (by omega)]; rfl
section
variable {n k p : Nat} {W : Nat → Nat → Option Int} {K K' : Mx} {rk : Nat → Nat} {Q Q1 : Nat → Option Int} {rv : Nat → Int}
theorem bd_zero (hW : ∀ a b x, a < n → b < n → W a b = some x → a ≠ b ∧ 0 ≤ x ∧ x ≤ 1000000) : Bd n W 0 (edM n W) (fun _ => n) (firstQ n (edM n W) n) (fun _ => 0) := by
  have hR : ∀ a b x, resW n W a b = some x → a < n ∧ b < n ∧ a ≠ b ∧ 0 ≤ x ∧ x ≤ 1000000 := fun a b x h => by
    unfold resW at h
    split at h
    · rename_i e; exact ⟨e.1, e.2, hW a b x e.1 e.2 h⟩
    · cases h
  refine ⟨.zero, by rw [edM_res]; exact lft_zero hR, fun v => ?_, ?_, fun p _ h => absurd h (Nat.lt_irrefl _)⟩
  · unfold firstQ
    by_cases e : v < n <;> simp [e]
  · rw [num_full n fun v _ => by simp [waitsN]]
    rfl
theorem Lft.rk' (h : Lft n W k K rk) : Rk n K rk := ⟨fun a ha => by rcases h.rank a ha with e | e <;> have := h.kn <;> omega, fun a c v e => by obtain ⟨x, m⟩ := v; obtain ⟨r1, r2, r3, _⟩ := h.lk a c x m e; exact ⟨r1, r2, r3⟩⟩
theorem Lft.bound (h : Lft n W k K rk) (hn : n ≤ 32) (a c : Nat) (x m : Int) (e : K a c = some (x, m)) : 0 ≤ x ∧ x ≤ 4294967296000000 := by
  have h1 := h.bnd a c x m e
  have h2 := (h.lk a c x m e).2.2.2.1
  have h3 := pow_mono (Nat.le_trans h.kn hn)
  have h4 : (1000000 : Int) * 2 ^ 32 = 4294967296000000 := by decide
  omega
theorem bd_step (h : Bd n W k K rk Q rv) (hk : k < n) (hx : Next (bur n (upM K rk) (dnM K rk)) Q p Q1) (hl : IsLift n K rk p K') : p < n ∧ rk p = n ∧ Bd n W (k + 1) K' (updN rk p k) (stepQ n K' (updN rk p k) p Q1) (updI rv p k) := by
  obtain ⟨d1, d2⟩ := hx.dom
  obtain ⟨hp, rp⟩ := (h.dom p).1 d1
  have ls := h.lft.ls hk hp rp hl
  have l2 := lft_step h.lft ls
  have r2 := l2.rk'
  refine ⟨hp, rp, .step h.run hx hl, l2, fun v => ?_, ?_, fun q hq hr => ?_⟩
  · have dom1 : ∀ v, (Q1 v).isSome = true ↔ v < n ∧ updN rk p k v = n := fun v => by
      rw [d2 v]
      by_cases e : v = p
      · subst e; rw [updN_same]; simp; omega
      · rw [updN_other _ _ e]; simp [e, h.dom v]
    have wt : ∀ v, v < n → v ≠ p → updN rk p k v = rk v := fun v _ e => updN_other _ _ e
    have f1 : ∀ v, (upM K' (updN rk p k) p v).isSome = true → (Q1 v).isSome = true := fun v hv => by
      unfold upM at hv
      split at hv
      · rename_i hle
        obtain ⟨kv, e⟩ := Option.isSome_iff_exists.1 hv
        obtain ⟨_, r2', r3⟩ := r2.lk p v kv e
        rw [updN_same] at hle
        refine (dom1 v).2 ⟨r2', ?_⟩
        rw [updN_other _ _ (fun e => r3 e.symm)] at hle ⊢
        rcases h.lft.rank v r2' with r | r
        · omega
        · exact r
      · cases hv
    have f2 : ∀ v, (dnM K' (updN rk p k) v p).isSome = true → (Q1 v).isSome = true := fun v hv => by
      unfold dnM at hv
      split at hv
      · rename_i hle
        obtain ⟨kv, e⟩ := Option.isSome_iff_exists.1 hv
        obtain ⟨r1, _, r3⟩ := r2.lk v p kv e
        rw [updN_same] at hle
        refine (dom1 v).2 ⟨r1, ?_⟩
        rw [updN_other _ _ r3] at hle ⊢
        rcases h.lft.rank v r1 with r | r
        · omega
        · exact r
      · cases hv
    unfold stepQ
    rw [eaQ_dom (fun u hu => by rw [eaQ_dom f1]; exact f2 u hu), eaQ_dom f1]
    exact dom1 v
  · have e : waitsN n (updN rk p k) = upd (waitsN n rk) p none := by
      funext v
      unfold waitsN
      by_cases e : v = p
      · subst e; rw [upd_same, updN_same]; simp; omega
      · rw [upd_other _ _ e, updN_other _ _ e]
    have h1 := num_del (waitsN n rk) p n hp
    have h2 : waitsN n rk p = some () := by unfold waitsN; simp [rp]
    rw [h2] at h1
    have h3 := h.cnt
    rw [e]
    simp at h1
    omega
  · by_cases e : q = p
    · subst e; rw [updI_same, updN_same]
    · rw [updI_other _ _ e]
      rw [updN_other _ _ e] at hr ⊢
      exact h.rvs q hq hr
theorem bd_sup (h : Bd n W k K rk Q rv) (hk : k < n) (hx : Next (bur n (upM K rk) (dnM K rk)) Q p Q1) (hl : IsLift n K rk p K') : (∀ a c, (upM K' (updN rk p k) a c).isSome = true → c < n) ∧ ∀ a c, (dnM K' (updN rk p k) a c).isSome = true → a < n := by
  have r2 := (bd_step h hk hx hl).2.2.lft.rk'
  refine ⟨fun a c e => ?_, fun a c e => ?_⟩
  · unfold upM at e
    split at e
    · obtain ⟨v, e⟩ := Option.isSome_iff_exists.1 e; exact (r2.lk a c v e).2.1
    · cases e
  · unfold dnM at e
    split at e
    · obtain ⟨v, e⟩ := Option.isSome_iff_exists.1 e; exact (r2.lk a c v e).1
    · cases e
theorem bd_some (h : Bd n W k K rk Q rv) (hk : k < n) : ∃ v, (Q v).isSome = true := by
  obtain ⟨v, hv, e⟩ := num_some n (F := waitsN n rk) (by have := h.cnt; omega)
  refine ⟨v, (h.dom v).2 ⟨hv, ?_⟩⟩
  unfold waitsN at e
  split at e
  · assumption
  · cases e
theorem bd_all (h : Bd n W n K rk Q rv) : ∀ a, a < n → rk a < n := fun a ha => by
  have := num_none (F := waitsN n rk) n (by have := h.cnt; omega) a ha
  unfold waitsN at this
  split at this
  · cases this
  · rename_i e
    rcases h.lft.rank a ha with r | r
    · exact r
    · exact absurd r e
end
theorem first_next {n : Nat} {K : Mx} {i : Nat} : putQ (firstQ n K i) i (bur n K K i) = firstQ n K (i + 1) := by
  funext v
  unfold putQ
  by_cases e : v = i
  · subst e
    rw [upd_same]
    simp [firstQ]
  · rw [upd_other _ _ e]
    unfold firstQ
    by_cases e2 : v < i
    · rw [if_pos e2, if_pos (by omega)]
    · rw [if_neg e2, if_neg (by omega)]
theorem upM_flat (K : Mx) (n : Nat) : upM K (fun _ => n) = K ∧ dnM K (fun _ => n) = K := ⟨by funext a c; unfold upM; simp, by funext a c; unfold dnM; simp⟩
set_option maxRecDepth 100000 in
theorem build_nil (w : World) : Calls Try.prog 26 #[.pointer none] w fun e w' => e = .returned (.pointer none) ∧ w' = w := by
  go_enter Try.func26, Try.ntmps26
  go_wp2
  go_ret
  exact ⟨rfl, rfl⟩
set_option maxRecDepth 100000 in
set_option maxHeartbeats 6400000 in
theorem build_any {w : World} {g n : Nat} {W : Nat → Nat → Option Int} (h : GAt w g n W) (hn : 1 ≤ n ∧ n ≤ 32) (hW : WOk n W) (hL : ∀ a, a < n → W a a = none) :
    Calls Try.prog 26 #[.pointer (some ⟨g, 0, none⟩)] w fun e w' => ∃ b : LfB, e = .returned (.pointer (some ⟨b.l, 0, none⟩)) ∧ ∃ K rk Q rv, Bd n W n K rk Q rv ∧ LfA n w' b rv (upM K rk) (dnM K rk) ∧ (∀ k, b.S n k → w.heap.size ≤ k) ∧ Below w.heap.size w w' := by
  have HED := hide (edges_any h hn hW)
  have HN := hide hn
  have HB0 := hide (bd_zero (n := n) (W := W) fun a b x ha hb e => ⟨fun e2 => (by subst e2; rw [hL a ha] at e; cases e), hW a b x ha hb e⟩)
  clear h hW hL
  go_enter Try.func26, Try.ntmps26
  go_wp2_with (first
    | (go_at_call 46; refine HED.out.mono ?_; rintro e w1 ⟨b, rfl, h1, h2, h3⟩; have H1 := hide (And.intro h1 (And.intro h2 h3)); clear h1 h2 h3)
    | (go_at_call 47; refine (new_exact w1).mono ?_; rintro e w2 ⟨rfl, hw⟩; have H2 : Hid (BuIn n w w.heap.size b (fun _ => 0) (edM n W) (edM n W) w1.heap.size (firstQ n (edM n W) 0) [] (fun k => k = w1.heap.size) w2) := (by subst hw; exact ⟨H1.out.1.later ((Below.refl _ _).alloc (Nat.le_refl _) _), ⟨rfl, fun k e => by subst e; simp, .inl ⟨heap_alloc_new _ _, rfl⟩⟩, ⟨fun y => by simp [firstQ], fun v k e => by simp [firstQ] at e⟩, fun k e e2 => by subst e; have := H1.out.1.lt e2; omega, fun k e => by subst e; exact H1.out.2.2.size, H1.out.2.1, H1.out.2.2.alloc H1.out.2.2.size _, by have := H1.out.2.2.size; simp; omega⟩); clear hw)
    | (go_at_call 27; refine (lplaces_any H2.out.lf HN.out.2).mono ?_; rintro e w3 ⟨rfl, hw⟩; rw [hw]; clear hw))
  obtain ⟨q, hq⟩ : ∃ q, w1.heap.size = q := ⟨_, rfl⟩
  rw [hq] at H2
  try rw [hq]
  clear H1 hq HED
  go_loopw [15] (fun vi wr => ∃ i : Nat, vi = .int .i64 i ∧ i ≤ n ∧ Hid (∃ X S, BuIn n w w.heap.size b (fun _ => 0) (edM n W) (edM n W) q (firstQ n (edM n W) i) X S wr)) (fun vi _ => n - (intOf vi).toNat)
  case atStart => exact ⟨0, rfl, Nat.zero_le _, _, _, H2.out⟩
  case round =>
    clear H2
    obtain ⟨i, rfl, hi, HR⟩ := hrel
    obtain ⟨X, S, hR⟩ := HR.out
    have HR2 := hide hR
    clear hR HR
    by_cases hin : i < n
    · have i1 : (i : Int) < (n : Int) := by omega
      have HBD := hide (burden_any HR2.out.lf HN.out.2 hin)
      have hbl := bur_le n HN.out.2 (edM n W) (edM n W) i
      have HFN := hide (first_next (n := n) (K := edM n W) (i := i))
      have HIN := hide hin
      generalize bur n (edM n W) (edM n W) i = bi at HBD hbl HFN
      go_wp2_with (first
        | (go_at_call 49; refine HBD.out.mono ?_; rintro e w3 ⟨rfl, k3, hw⟩; have H3 := hide (HR2.out.drewN k3); rw [hw]; clear hw)
        | (go_at_call 48; refine (H3.out.put HN.out.2 HIN.out (k := bi) (by omega)).mono ?_; rintro e w4 ⟨rfl, S4, h4, _, _⟩; have H4 := hide h4; rw [HFN.out] at H4; clear h4))
      go_roundw
      case rel => exact ⟨i + 1, by go_num, by have := HIN.out; omega, _, _, H4.out⟩
      case measure => have := HIN.out; simp [intOf]; omega
    · have e : i = n := by omega
      have i1 : ¬ (i : Int) < (n : Int) := by omega
      subst e
      have HS : Hid (∃ K rk Q rv X S, Bd i W 0 K rk Q rv ∧ BuIn i w w.heap.size b rv (upM K rk) (dnM K rk) q Q X S wr) := ⟨_, _, _, _, X, S, HB0.out, by rw [(upM_flat _ _).1, (upM_flat _ _).2]; exact HR2.out⟩
      go_wp2_with (go_at_call 27; refine (lplaces_any HR2.out.lf HN.out.2).mono ?_; rintro e w3 ⟨rfl, hw⟩; rw [hw]; clear hw)
      clear HR2
      go_loopw [27] (fun vi wr => ∃ k : Nat, vi = .int .i64 k ∧ k ≤ i ∧ Hid (∃ K rk Q rv X S, Bd i W k K rk Q rv ∧ BuIn i w w.heap.size b rv (upM K rk) (dnM K rk) q Q X S wr)) (fun vi _ => i - (intOf vi).toNat)
      case atStart => exact ⟨0, rfl, Nat.zero_le _, HS.out⟩
      case round =>
        clear HS
        obtain ⟨k, rfl, hk, HR⟩ := hrel
        obtain ⟨K, rk, Q, rv, X, S, hBd, hBu⟩ := HR.out
        by_cases hki : k < i
        · have i2 : (k : Int) < (i : Int) := by omega
          have HNX := hide (next_any hBu HN.out.2 (bd_some hBd hki))
          have HBD := hide hBd
          have HKI := hide hki
          clear hBd hBu HR
          go_wp2_with (first
            | (go_at_call 50; refine HNX.out.mono ?_; rintro e w3 ⟨p, rfl, hp, Q1, X1, S1, h1, h2⟩; have H3 := hide (And.intro h1 h2); have HP : Hid (p < i ∧ rk p = i) := (by have := h1.dom; exact (HBD.out.dom p).1 this.1); clear h1 h2)
            | (go_at_call 51; refine (lift_any H3.out.2.lf HN.out.2 HBD.out.lft.rk' (HBD.out.lft.bound HN.out.2) HP.out.1 HP.out.2 HKI.out HBD.out.lft.rank).mono ?_; rintro e w4 ⟨rfl, K', h1, h2, h3⟩; have H4 : Hid (IsLift i K rk p K' ∧ BuIn i w w.heap.size b (updI rv p k) (upM K' (updN rk p k)) (dnM K' (updN rk p k)) q Q1 X1 S1 w4) := ⟨h1, h2, H3.out.2.qu.fr h3 H3.out.2.sep, H3.out.2.keys, H3.out.2.sep, H3.out.2.gs, H3.out.2.gb, H3.out.2.below.trans (h3.below H3.out.2.wB H3.out.2.gb), Nat.le_trans H3.out.2.wB h3.size⟩; clear h1 h2 h3)
            | (go_at_call 52; refine (ease_any H4.out.2 HN.out.2 (fun a c e => (bd_sup HBD.out HKI.out H3.out.1 H4.out.1).1 a c e) (fun a c e => (bd_sup HBD.out HKI.out H3.out.1 H4.out.1).2 a c e) HP.out.1).mono ?_; rintro e w5 ⟨rfl, X5, S5, h5⟩; have H5 := hide h5; clear h5))
          go_roundw
          case rel => exact ⟨k + 1, by go_num, by have := HKI.out; omega, _, _, _, _, X5, S5, (bd_step HBD.out HKI.out H3.out.1 H4.out.1).2.2, H5.out⟩
          case measure => have := HKI.out; simp [intOf]; omega
        · have e : k = i := by omega
          have i2 : ¬ (k : Int) < (i : Int) := by omega
          subst e
          have HE := hide (And.intro hBd hBu)
          clear hBd hBu HR
          go_wp2
          go_ret
          exact ⟨b, rfl, K, rk, Q, rv, HE.out.1, HE.out.2.lf, HE.out.2.gb, HE.out.2.below⟩
end Go.Proofs.Ytlflbjnglmbdeaa
