/-
  Plain mathematics for the laws of layer 11 (hours): windows of time, the first time at or behind a time and the last one at or ahead of it; no program in it.
-/
namespace Go.Proofs.Ytjinhjfjdcmdeaa

/-- A window: from, to. -/
abbrev Win := Int × Int
def badW (e : Int) (w : Win) : Bool := decide (w.1 ≤ e ∨ w.2 < w.1 ∨ 1000000 < w.2)
/-- From window i on, the one ahead having ended at e. -/
def chkF : Int → Nat → List Win → Int × Int
  | _, _, [] => (-1, 0)
  | e, i, w :: r => if badW e w = true then ((i : Int), 2) else chkF w.2 (i + 1) r
/-- What is wrong with windows. -/
def chk (L : List Win) : Int × Int := if L.length < 1 ∨ 4 < L.length then (-1, 43) else chkF (-1) 0 L
theorem chkF_drop (e : Int) (L : List Win) (i : Nat) (h : i < L.length) : chkF e i (L.drop i) = if badW e L[i]! = true then ((i : Int), 2) else chkF (L[i]!).2 (i + 1) (L.drop (i + 1)) := by
  rw [List.drop_eq_getElem_cons h, getElem!_pos L i h]
  rfl
theorem badW_yes {e x y : Int} (h : x ≤ e ∨ y < x ∨ 1000000 < y) : badW e (x, y) = true := decide_eq_true h
theorem badW_no {e x y : Int} (h : ¬ (x ≤ e ∨ y < x ∨ 1000000 < y)) : badW e (x, y) = false := decide_eq_false h

/-- Windows that rise. -/
def Lw (L : List Win) : Prop := (∀ w ∈ L, w.1 ≤ w.2 ∧ 0 ≤ w.1 ∧ w.2 ≤ 1000000) ∧ L.Pairwise fun u v => u.2 < v.1
theorem Lw.tail {w : Win} {L : List Win} (h : Lw (w :: L)) : Lw L := ⟨fun u hu => h.1 u (List.mem_cons_of_mem _ hu), (List.pairwise_cons.1 h.2).2⟩
theorem chkF_ok : ∀ (L : List Win) (e : Int) (i : Nat), -1 ≤ e → (chkF e i L).2 = 0 → Lw L ∧ ∀ w ∈ L, e < w.1
  | [], _, _, _, _ => ⟨⟨fun _ h => by simp at h, List.Pairwise.nil⟩, fun _ h => by simp at h⟩
  | w :: r, e, i, he, h => by
    unfold chkF at h
    cases hb : badW e w with
    | true => rw [hb] at h; simp at h
    | false =>
      rw [hb] at h
      simp only [Bool.false_eq_true, if_false] at h
      have hw := of_decide_eq_false hb
      have ih := chkF_ok r w.2 (i + 1) (by omega) h
      refine ⟨⟨fun u hu => ?_, List.pairwise_cons.2 ⟨ih.2, ih.1.2⟩⟩, fun u hu => ?_⟩
      · rcases List.mem_cons.1 hu with rfl | hu
        · omega
        · exact ih.1.1 u hu
      · rcases List.mem_cons.1 hu with rfl | hu
        · omega
        · have := ih.2 u hu; omega
theorem chk_ok {L : List Win} (h : (chk L).2 = 0) : 1 ≤ L.length ∧ L.length ≤ 4 ∧ Lw L := by
  unfold chk at h
  split at h
  · simp at h
  · exact ⟨by omega, by omega, (chkF_ok L (-1) 0 (by omega) h).1⟩

/-- Does a time lie in one of them? -/
def inP (L : List Win) (x : Int) : Prop := ∃ w ∈ L, w.1 ≤ x ∧ x ≤ w.2
def inM (t : Int) (L : List Win) : Bool := L.any fun w => decide (w.1 ≤ t ∧ t ≤ w.2)
theorem inM_iff {t : Int} {L : List Win} : inM t L = true ↔ inP L t := by simp [inM, inP]
theorem inM_no {t : Int} {L : List Win} : inM t L = false ↔ ¬ inP L t := by rw [← inM_iff]; simp
theorem inP_cons {w : Win} {L : List Win} {x : Int} : inP (w :: L) x ↔ (w.1 ≤ x ∧ x ≤ w.2) ∨ inP L x := by simp [inP]
theorem inP_app {A B : List Win} {x : Int} : inP (A ++ B) x ↔ inP A x ∨ inP B x := by
  unfold inP
  constructor
  · rintro ⟨w, h, k⟩
    rcases List.mem_append.1 h with h | h
    · exact .inl ⟨w, h, k⟩
    · exact .inr ⟨w, h, k⟩
  · rintro (⟨w, h, k⟩ | ⟨w, h, k⟩)
    · exact ⟨w, List.mem_append.2 (.inl h), k⟩
    · exact ⟨w, List.mem_append.2 (.inr h), k⟩
theorem inP_one {w : Win} {x : Int} : inP [w] x ↔ w.1 ≤ x ∧ x ≤ w.2 := by simp [inP]
theorem inP_nil {x : Int} : ¬ inP [] x := by simp [inP]

/-- The first time at or behind t. -/
def IsStart (L : List Win) (t : Int) (r : Int × Bool) : Prop :=
  (r.2 = true ∧ t ≤ r.1 ∧ inP L r.1 ∧ ∀ x, t ≤ x → x < r.1 → ¬ inP L x) ∨ (r = (0, false) ∧ ∀ x, t ≤ x → ¬ inP L x)
def IsLast (L : List Win) (t : Int) (r : Int × Bool) : Prop :=
  (r.2 = true ∧ r.1 ≤ t ∧ inP L r.1 ∧ ∀ x, x ≤ t → r.1 < x → ¬ inP L x) ∨ (r = (0, false) ∧ ∀ x, x ≤ t → ¬ inP L x)
theorem IsStart.eq {L : List Win} {t : Int} {r s : Int × Bool} (h : IsStart L t r) (k : IsStart L t s) : r = s := by
  rcases h with ⟨h1, h2, h3, h4⟩ | ⟨h1, h2⟩ <;> rcases k with ⟨k1, k2, k3, k4⟩ | ⟨k1, k2⟩
  · have e : r.1 = s.1 := by
      rcases Int.lt_trichotomy r.1 s.1 with h | h | h
      · exact absurd h3 (k4 _ h2 h)
      · exact h
      · exact absurd k3 (h4 _ k2 h)
    exact Prod.ext e (by rw [h1, k1])
  · exact absurd h3 (k2 _ h2)
  · exact absurd k3 (h2 _ k2)
  · rw [h1, k1]
theorem IsLast.eq {L : List Win} {t : Int} {r s : Int × Bool} (h : IsLast L t r) (k : IsLast L t s) : r = s := by
  rcases h with ⟨h1, h2, h3, h4⟩ | ⟨h1, h2⟩ <;> rcases k with ⟨k1, k2, k3, k4⟩ | ⟨k1, k2⟩
  · have e : r.1 = s.1 := by
      rcases Int.lt_trichotomy r.1 s.1 with h | h | h
      · exact absurd k3 (h4 _ k2 h)
      · exact h
      · exact absurd h3 (k4 _ h2 h)
    exact Prod.ext e (by rw [h1, k1])
  · exact absurd h3 (k2 _ h2)
  · exact absurd k3 (h2 _ k2)
  · rw [h1, k1]
/-- What the program finds: the first window that isn't over. -/
def startM (t : Int) : List Win → Int × Bool
  | [] => (0, false)
  | w :: r => if t ≤ w.2 then (if w.1 < t then t else w.1, true) else startM t r
/-- .. and the last one that has begun. -/
def lastR (t : Int) : List Win → Int × Bool
  | [] => (0, false)
  | w :: r => if w.1 ≤ t then (if t < w.2 then t else w.2, true) else lastR t r
def lastM (t : Int) (L : List Win) : Int × Bool := lastR t L.reverse
theorem startM_is (t : Int) : ∀ L : List Win, Lw L → IsStart L t (startM t L)
  | [], _ => .inr ⟨rfl, fun _ _ => inP_nil⟩
  | w :: r, h => by
    have hw := h.1 w List.mem_cons_self
    have hr := (List.pairwise_cons.1 h.2).1
    by_cases ht : t ≤ w.2
    · rw [startM, if_pos ht]
      have hin : ∀ x, x < w.1 → ¬ inP (w :: r) x := fun x hx h => by
        rcases inP_cons.1 h with h | ⟨u, hu, h⟩
        · omega
        · have := hr u hu; omega
      by_cases h2 : w.1 < t
      · rw [if_pos h2]
        exact .inl ⟨rfl, Int.le_refl _, inP_cons.2 (.inl ⟨by show w.1 ≤ t; omega, ht⟩), fun x h1 h2 => by simp only at h2; omega⟩
      · rw [if_neg h2]
        exact .inl ⟨rfl, by show t ≤ w.1; omega, inP_cons.2 (.inl ⟨Int.le_refl _, by show w.1 ≤ w.2; omega⟩), fun x _ h => hin x h⟩
    · rw [startM, if_neg ht]
      have e : ∀ x, t ≤ x → (inP (w :: r) x ↔ inP r x) := fun x hx => by rw [inP_cons]; exact ⟨fun h => h.elim (fun h => by omega) id, .inr⟩
      rcases startM_is t r h.tail with ⟨h1, h2, h3, h4⟩ | ⟨h1, h2⟩
      · exact .inl ⟨h1, h2, (e _ h2).2 h3, fun x hx hl => by rw [e x hx]; exact h4 x hx hl⟩
      · exact .inr ⟨h1, fun x hx => by rw [e x hx]; exact h2 x hx⟩
theorem lastR_is (t : Int) : ∀ L : List Win, (∀ w ∈ L, w.1 ≤ w.2) → L.Pairwise (fun u v => v.2 < u.1) → IsLast L t (lastR t L)
  | [], _, _ => .inr ⟨rfl, fun _ _ => inP_nil⟩
  | w :: r, h1, h2 => by
    have hw := h1 w List.mem_cons_self
    have hr := (List.pairwise_cons.1 h2).1
    by_cases ht : w.1 ≤ t
    · rw [lastR, if_pos ht]
      have hin : ∀ x, w.2 < x → ¬ inP (w :: r) x := fun x hx h => by
        rcases inP_cons.1 h with h | ⟨u, hu, h⟩
        · omega
        · have := hr u hu; omega
      by_cases h3 : t < w.2
      · rw [if_pos h3]
        exact .inl ⟨rfl, Int.le_refl _, inP_cons.2 (.inl ⟨ht, by show t ≤ w.2; omega⟩), fun x h1 h2 => by simp only at h2; omega⟩
      · rw [if_neg h3]
        exact .inl ⟨rfl, by show w.2 ≤ t; omega, inP_cons.2 (.inl ⟨hw, Int.le_refl _⟩), fun x _ h => hin x h⟩
    · rw [lastR, if_neg ht]
      have e : ∀ x, x ≤ t → (inP (w :: r) x ↔ inP r x) := fun x hx => by rw [inP_cons]; exact ⟨fun h => h.elim (fun h => by omega) id, .inr⟩
      rcases lastR_is t r (fun u hu => h1 u (List.mem_cons_of_mem _ hu)) (List.pairwise_cons.1 h2).2 with ⟨k1, k2, k3, k4⟩ | ⟨k1, k2⟩
      · exact .inl ⟨k1, k2, (e _ k2).2 k3, fun x hx hl => by rw [e x hx]; exact k4 x hx hl⟩
      · exact .inr ⟨k1, fun x hx => by rw [e x hx]; exact k2 x hx⟩
theorem inP_rev {L : List Win} {x : Int} : inP L.reverse x ↔ inP L x := by simp [inP]
theorem lastM_is (t : Int) {L : List Win} (h : Lw L) : IsLast L t (lastM t L) := by
  have := lastR_is t L.reverse (fun w hw => (h.1 w (List.mem_reverse.1 hw)).1) (List.pairwise_reverse.2 h.2)
  unfold IsLast at this ⊢
  simp only [inP_rev] at this
  exact this
/-- What the document finds, window by window. -/
def rstF (t : Int) (s : Int × Bool) (w : Win) : Int × Bool :=
  if w.2 < t then s else if s.2 = false ∨ (if w.1 < t then t else w.1) < s.1 then (if w.1 < t then t else w.1, true) else s
def rlaF (t : Int) (s : Int × Bool) (w : Win) : Int × Bool :=
  if t < w.1 then s else if s.2 = false ∨ s.1 < (if t < w.2 then t else w.2) then (if t < w.2 then t else w.2, true) else s
def rst (t : Int) (L : List Win) : Int × Bool := L.foldl (rstF t) (0, false)
def rla (t : Int) (L : List Win) : Int × Bool := L.foldl (rlaF t) (0, false)
theorem rst_step {t : Int} {P : List Win} {s : Int × Bool} {w : Win} (hw : w.1 ≤ w.2) (h : IsStart P t s) : IsStart (P ++ [w]) t (rstF t s w) := by
  unfold rstF
  by_cases ht : w.2 < t
  · rw [if_pos ht]
    have e : ∀ x, t ≤ x → (inP (P ++ [w]) x ↔ inP P x) := fun x hx => by rw [inP_app, inP_one]; exact ⟨fun h => h.elim id (fun h => by omega), .inl⟩
    rcases h with ⟨h1, h2, h3, h4⟩ | ⟨h1, h2⟩
    · exact .inl ⟨h1, h2, (e _ h2).2 h3, fun x hx hl => by rw [e x hx]; exact h4 x hx hl⟩
    · exact .inr ⟨h1, fun x hx => by rw [e x hx]; exact h2 x hx⟩
  · rw [if_neg ht]
    obtain ⟨y, hy⟩ : ∃ y, (if w.1 < t then t else w.1) = y := ⟨_, rfl⟩
    rw [hy]
    have y1 : t ≤ y ∧ w.1 ≤ y ∧ y ≤ w.2 ∧ ∀ x, t ≤ x → w.1 ≤ x → y ≤ x := by
      split at hy
      · exact ⟨by omega, by omega, by omega, fun x _ _ => by omega⟩
      · exact ⟨by omega, by omega, by omega, fun x _ _ => by omega⟩
    obtain ⟨y1, y2, y3, y4⟩ := y1
    by_cases hc : s.2 = false ∨ y < s.1
    · rw [if_pos hc]
      refine .inl ⟨rfl, y1, inP_app.2 (.inr (inP_one.2 ⟨y2, y3⟩)), fun x hx hl hin => ?_⟩
      simp only at hl
      rcases inP_app.1 hin with hin | hin
      · rcases h with ⟨h1, h2, h3, h4⟩ | ⟨h1, h2⟩
        · rcases hc with hc | hc
          · rw [h1] at hc; cases hc
          · exact h4 x hx (by omega) hin
        · exact h2 x hx hin
      · have := y4 x hx (inP_one.1 hin).1; omega
    · rw [if_neg hc]
      rcases h with ⟨h1, h2, h3, h4⟩ | ⟨h1, h2⟩
      · refine .inl ⟨h1, h2, inP_app.2 (.inl h3), fun x hx hl hin => ?_⟩
        rcases inP_app.1 hin with hin | hin
        · exact h4 x hx hl hin
        · have := y4 x hx (inP_one.1 hin).1
          exact hc (.inr (by omega))
      · exact absurd (.inl (by rw [h1])) hc
theorem rla_step {t : Int} {P : List Win} {s : Int × Bool} {w : Win} (hw : w.1 ≤ w.2) (h : IsLast P t s) : IsLast (P ++ [w]) t (rlaF t s w) := by
  unfold rlaF
  by_cases ht : t < w.1
  · rw [if_pos ht]
    have e : ∀ x, x ≤ t → (inP (P ++ [w]) x ↔ inP P x) := fun x hx => by rw [inP_app, inP_one]; exact ⟨fun h => h.elim id (fun h => by omega), .inl⟩
    rcases h with ⟨h1, h2, h3, h4⟩ | ⟨h1, h2⟩
    · exact .inl ⟨h1, h2, (e _ h2).2 h3, fun x hx hl => by rw [e x hx]; exact h4 x hx hl⟩
    · exact .inr ⟨h1, fun x hx => by rw [e x hx]; exact h2 x hx⟩
  · rw [if_neg ht]
    obtain ⟨y, hy⟩ : ∃ y, (if t < w.2 then t else w.2) = y := ⟨_, rfl⟩
    rw [hy]
    have y1 : y ≤ t ∧ w.1 ≤ y ∧ y ≤ w.2 ∧ ∀ x, x ≤ t → x ≤ w.2 → x ≤ y := by
      split at hy
      · exact ⟨by omega, by omega, by omega, fun x _ _ => by omega⟩
      · exact ⟨by omega, by omega, by omega, fun x _ _ => by omega⟩
    obtain ⟨y1, y2, y3, y4⟩ := y1
    by_cases hc : s.2 = false ∨ s.1 < y
    · rw [if_pos hc]
      refine .inl ⟨rfl, y1, inP_app.2 (.inr (inP_one.2 ⟨y2, y3⟩)), fun x hx hl hin => ?_⟩
      simp only at hl
      rcases inP_app.1 hin with hin | hin
      · rcases h with ⟨h1, h2, h3, h4⟩ | ⟨h1, h2⟩
        · rcases hc with hc | hc
          · rw [h1] at hc; cases hc
          · exact h4 x hx (by omega) hin
        · exact h2 x hx hin
      · have := y4 x hx (inP_one.1 hin).2; omega
    · rw [if_neg hc]
      rcases h with ⟨h1, h2, h3, h4⟩ | ⟨h1, h2⟩
      · refine .inl ⟨h1, h2, inP_app.2 (.inl h3), fun x hx hl hin => ?_⟩
        rcases inP_app.1 hin with hin | hin
        · exact h4 x hx hl hin
        · have := y4 x hx (inP_one.1 hin).2
          exact hc (.inr (by omega))
      · exact absurd (.inl (by rw [h1])) hc
theorem rst_is (t : Int) : ∀ (L P : List Win) (s : Int × Bool), (∀ w ∈ L, w.1 ≤ w.2) → IsStart P t s → IsStart (P ++ L) t (L.foldl (rstF t) s)
  | [], P, s, _, h => by simpa using h
  | w :: r, P, s, hl, h => by
    have := rst_is t r (P ++ [w]) _ (fun u hu => hl u (List.mem_cons_of_mem _ hu)) (rst_step (hl w List.mem_cons_self) h)
    rw [List.append_assoc] at this
    exact this
theorem rla_is (t : Int) : ∀ (L P : List Win) (s : Int × Bool), (∀ w ∈ L, w.1 ≤ w.2) → IsLast P t s → IsLast (P ++ L) t (L.foldl (rlaF t) s)
  | [], P, s, _, h => by simpa using h
  | w :: r, P, s, hl, h => by
    have := rla_is t r (P ++ [w]) _ (fun u hu => hl u (List.mem_cons_of_mem _ hu)) (rla_step (hl w List.mem_cons_self) h)
    rw [List.append_assoc] at this
    exact this
theorem rst_eq {t : Int} {L : List Win} (h : Lw L) : startM t L = rst t L :=
  (startM_is t L h).eq (rst_is t L [] (0, false) (fun w hw => (h.1 w hw).1) (.inr ⟨rfl, fun _ _ => inP_nil⟩))
theorem rla_eq {t : Int} {L : List Win} (h : Lw L) : lastM t L = rla t L :=
  (lastM_is t h).eq (rla_is t L [] (0, false) (fun w hw => (h.1 w hw).1) (.inr ⟨rfl, fun _ _ => inP_nil⟩))
theorem in_start {t : Int} {L : List Win} (h : Lw L) : inM t L = ((startM t L).2 && decide ((startM t L).1 = t)) := by
  rcases startM_is t L h with ⟨h1, h2, h3, h4⟩ | ⟨h1, h2⟩
  · rw [h1, Bool.true_and]
    by_cases e : (startM t L).1 = t
    · rw [decide_eq_true e, inM_iff, ← e]; exact h3
    · rw [decide_eq_false e, inM_no]; exact h4 t (Int.le_refl _) (by omega)
  · rw [h1, inM_no.2 (h2 t (Int.le_refl _))]; rfl
theorem in_last {t : Int} {L : List Win} (h : Lw L) : inM t L = ((lastM t L).2 && decide ((lastM t L).1 = t)) := by
  rcases lastM_is t h with ⟨h1, h2, h3, h4⟩ | ⟨h1, h2⟩
  · rw [h1, Bool.true_and]
    by_cases e : (lastM t L).1 = t
    · rw [decide_eq_true e, inM_iff, ← e]; exact h3
    · rw [decide_eq_false e, inM_no]; exact h4 t (Int.le_refl _) (by omega)
  · rw [h1, inM_no.2 (h2 t (Int.le_refl _))]; rfl
/-- One window that is wider. -/
theorem wider_in {L : List Win} {i : Nat} {f u : Int} (hi : i < L.length) (h1 : f ≤ (L[i]!).1) (h2 : (L[i]!).2 ≤ u) {x : Int} (h : inP L x) : inP (L.set i (f, u)) x := by
  obtain ⟨w, hw, h3, h4⟩ := h
  obtain ⟨k, hk, e⟩ := List.getElem_of_mem hw
  rw [getElem!_pos L i hi] at h1 h2
  by_cases hki : k = i
  · subst hki
    exact ⟨(f, u), List.mem_set hk _, by rw [e] at h1; show f ≤ x; omega, by rw [e] at h2; show x ≤ u; omega⟩
  · refine ⟨w, ?_, h3, h4⟩
    rw [← e, show L[k] = (L.set i (f, u))[k]'(by rw [List.length_set]; exact hk) by rw [List.getElem_set_ne (Ne.symm hki)]]
    exact List.getElem_mem _
theorem wider_start {L M : List Win} {t : Int} (h : Lw L) (k : Lw M) (hs : ∀ x, inP L x → inP M x) : (startM t L).2 = true → (startM t M).2 = true ∧ (startM t M).1 ≤ (startM t L).1 := by
  intro e
  rcases startM_is t L h with ⟨h1, h2, h3, h4⟩ | ⟨h1, _⟩
  · rcases startM_is t M k with ⟨k1, k2, k3, k4⟩ | ⟨k1, k2⟩
    · refine ⟨k1, ?_⟩
      rcases Int.lt_or_le (startM t L).1 (startM t M).1 with hl | hl
      · exact absurd (hs _ h3) (k4 _ h2 hl)
      · exact hl
    · exact absurd (hs _ h3) (k2 _ h2)
  · rw [h1] at e; cases e
theorem wider_last {L M : List Win} {t : Int} (h : Lw L) (k : Lw M) (hs : ∀ x, inP L x → inP M x) : (lastM t L).2 = true → (lastM t M).2 = true ∧ (lastM t L).1 ≤ (lastM t M).1 := by
  intro e
  rcases lastM_is t h with ⟨h1, h2, h3, h4⟩ | ⟨h1, _⟩
  · rcases lastM_is t k with ⟨k1, k2, k3, k4⟩ | ⟨k1, k2⟩
    · refine ⟨k1, ?_⟩
      rcases Int.lt_or_le (lastM t M).1 (lastM t L).1 with hl | hl
      · exact absurd (hs _ h3) (k4 _ h2 hl)
      · exact hl
    · exact absurd (hs _ h3) (k2 _ h2)
  · rw [h1] at e; cases e
end Go.Proofs.Ytjinhjfjdcmdeaa
