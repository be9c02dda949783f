/-
  The second tree's values as they are shifted one by one; the list's own value put behind them.
-/
import Derived.Test.YtpffhckimilppaaDoorJnA
namespace Go.Proofs.YtpffhckimilppaaDoor.Jn
open Go.RowKit
set_option maxRecDepth 100000

/-- The first j kids are shifted. -/
def kidsJ (n : Nat) (ks : List Int) (j : Nat) : List Int := (ks.take j).map (fun k => k + (n : Int)) ++ ks.drop j
theorem kidsJ_len (n : Nat) (ks : List Int) (j : Nat) (_h : j ≤ ks.length) : (kidsJ n ks j).length = ks.length := by simp [kidsJ]; omega
theorem kidsJ_zero (n : Nat) (ks : List Int) : kidsJ n ks 0 = ks := by simp [kidsJ]
theorem kidsJ_all (n : Nat) (ks : List Int) : kidsJ n ks ks.length = ks.map fun k => k + (n : Int) := by simp [kidsJ]
theorem kidsJ_at (n : Nat) (ks : List Int) (j : Nat) {k : Int} (h : ks[j]? = some k) : (kidsJ n ks j)[j]? = some k := by
  have hj := (List.getElem?_eq_some_iff.1 h).1
  unfold kidsJ
  rw [List.getElem?_append_right (by simp; omega)]
  simp only [List.length_map, List.length_take, Nat.min_eq_left (Nat.le_of_lt hj), Nat.sub_self, List.getElem?_drop, Nat.add_zero]
  exact h
theorem kidsJ_succ (n : Nat) (ks : List Int) (j : Nat) {k : Int} (h : ks[j]? = some k) : kidsJ n ks (j + 1) = (kidsJ n ks j).set j (k + (n : Int)) := by
  have hj := (List.getElem?_eq_some_iff.1 h).1
  have hd : ks.drop j = k :: ks.drop (j + 1) := by rw [List.drop_eq_getElem_cons hj, (List.getElem?_eq_some_iff.1 h).2]
  unfold kidsJ
  rw [hd, List.take_add_one, h]
  have hl : ((ks.take j).map fun k => k + (n : Int)).length = j := by simp; omega
  rw [List.set_append_right _ _ (by omega), hl, Nat.sub_self]
  simp
/-- The first i values are shifted. -/
def curB (n : Nat) (B : List VI) (i : Nat) : List VI := (B.take i).map (shiftV n) ++ B.drop i
theorem curB_len (n : Nat) (B : List VI) (i : Nat) : (curB n B i).length = B.length := by simp [curB]; omega
theorem curB_zero (n : Nat) (B : List VI) : curB n B 0 = B := by simp [curB]
theorem curB_all (n : Nat) (B : List VI) : curB n B B.length = B.map (shiftV n) := by simp [curB]
theorem curB_at {n : Nat} {B : List VI} {i : Nat} {x : VI} (h : B[i]? = some x) : (curB n B i)[i]? = some x := by
  have hi := (List.getElem?_eq_some_iff.1 h).1
  unfold curB
  rw [List.getElem?_append_right (by simp; omega)]
  simp only [List.length_map, List.length_take, Nat.min_eq_left (Nat.le_of_lt hi), Nat.sub_self, List.getElem?_drop, Nat.add_zero]
  exact h
/-- .. and the first j kids of the next one. -/
def curK (n : Nat) (B : List VI) (i : Nat) (x : VI) (j : Nat) : List VI := (curB n B i).set i { x with kids := kidsJ n x.kids j }
theorem curK_zero {n : Nat} {B : List VI} {i : Nat} {x : VI} (h : B[i]? = some x) : curK n B i x 0 = curB n B i := by
  unfold curK
  rw [kidsJ_zero]
  have := curB_at (n := n) h
  obtain ⟨hl, e⟩ := List.getElem?_eq_some_iff.1 this
  have e2 : ({ x with kids := x.kids } : VI) = (curB n B i)[i] := e.symm
  rw [e2]
  exact List.set_getElem_self hl
theorem curK_len (n : Nat) (B : List VI) (i : Nat) (x : VI) (j : Nat) : (curK n B i x j).length = B.length := by rw [curK, List.length_set, curB_len]
theorem curK_at {n : Nat} {B : List VI} {i : Nat} {x : VI} (j : Nat) (h : B[i]? = some x) : (curK n B i x j)[i]? = some { x with kids := kidsJ n x.kids j } := by
  have hi := (List.getElem?_eq_some_iff.1 h).1
  unfold curK
  rw [List.getElem?_set_self (by rw [curB_len]; exact hi)]
theorem curK_succ {n : Nat} {B : List VI} {i : Nat} {x : VI} {j : Nat} {k : Int} (h : x.kids[j]? = some k) : curK n B i x (j + 1) = (curK n B i x j).set i { { x with kids := kidsJ n x.kids j } with kids := (kidsJ n x.kids j).set j (k + (n : Int)) } := by
  unfold curK
  rw [List.set_set, kidsJ_succ n x.kids j h]
theorem curK_all {n : Nat} {B : List VI} {i : Nat} {x : VI} (h : B[i]? = some x) : curK n B i x x.kids.length = curB n B (i + 1) := by
  have hi := (List.getElem?_eq_some_iff.1 h).1
  have hd : B.drop i = x :: B.drop (i + 1) := by rw [List.drop_eq_getElem_cons hi, (List.getElem?_eq_some_iff.1 h).2]
  unfold curK curB
  rw [kidsJ_all, hd, List.take_add_one, h]
  have hl : ((B.take i).map (shiftV n)).length = i := by simp; omega
  rw [List.set_append_right _ _ (by omega), hl, Nat.sub_self]
  simp [shiftV]
section
variable {w w3 : World} {b3 b4 Ra Rb capb : Nat} {A : List VI} {nvA kvA nv kv : Nat → Value} {H G : Nat → Nat} {C : List VI} {i : Nat} {tv : Value} {wr w' : World}
/-- The rows of all that was put. -/
theorem JS.rows {tvA : Value} {HA GA : Nat → Nat} (h : JS w w3 b3 b4 Ra Rb capb A nvA kvA nv kv H G C i tv wr) (hA : CT w3 b3 tvA A nvA kvA HA GA) (hb4 : b4 = w3.heap.size) (hRa : ∃ arr f, w3.heap[Ra]? = some (.cells arr 42 f)) :
    ∀ (k : Nat) (y : VI), (A ++ C.take i)[k]? = some y → ∃ hb gb, RowF wr 0 9 hb (nvJ A.length nvA nv k) (y.names.map strv) ∧ RowF wr 0 3 gb (nvJ A.length kvA kv k) (y.kids.map intv) := fun k y hy => by
  obtain ⟨arr, f, hR⟩ := hRa
  by_cases hk : k < A.length
  · rw [List.getElem?_append_left hk] at hy
    unfold nvJ
    rw [if_pos hk, if_pos hk]
    have hn := hA.nms k y hy
    have hkd := hA.kds k y hy
    refine ⟨_, _, (hn.kept fun hx => h.keep _ ?_ ?_).mono (Nat.zero_le _), (hkd.kept fun hx => h.keep _ ?_ ?_).mono (Nat.zero_le _)⟩
    · rw [hb4]; exact hn.lt hx
    · exact hn.ne hx hR (by decide)
    · rw [hb4]; exact hkd.lt hx
    · exact hkd.ne hx hR (by decide)
  · rw [List.getElem?_append_right (by omega)] at hy
    have hy2 : C[k - A.length]? = some y := by
      have hlt := (List.getElem?_eq_some_iff.1 hy).1
      rw [List.length_take] at hlt
      rw [List.getElem?_take_of_lt (by omega)] at hy
      exact hy
    unfold nvJ
    rw [if_neg hk, if_neg hk]
    exact ⟨_, _, (h.bt.nms _ y hy2).mono (Nat.zero_le _), (h.bt.kds _ y hy2).mono (Nat.zero_le _)⟩
end
/-- All names and kids of a tree lie in blocks of their kind. -/
def Rows2 (w : World) (T : List VI) (nv kv : Nat → Value) : Prop := ∀ (k : Nat) (y : VI), T[k]? = some y → ∃ hb gb, RowF w 0 9 hb (nv k) (y.names.map strv) ∧ RowF w 0 3 gb (kv k) (y.kids.map intv)
theorem CT.rows {w : World} {base : Nat} {v : Value} {T : List VI} {nv kv : Nat → Value} {H G : Nat → Nat} (h : CT w base v T nv kv H G) : Rows2 w T nv kv := fun k y hy => ⟨_, _, (h.nms k y hy).mono (Nat.zero_le _), (h.kds k y hy).mono (Nat.zero_le _)⟩
theorem Rows2.later {w w' : World} {T : List VI} {nv kv : Nat → Value} (h : Rows2 w T nv kv) (hb : Below w.heap.size w w') : Rows2 w' T nv kv := fun k y hy => by
  obtain ⟨a, b, h1, h2⟩ := h k y hy
  exact ⟨a, b, h1.later hb, h2.later hb⟩
/-- The list's own value, put behind all others. -/
theorem node_put {w w' : World} {base kb n : Nat} {tv v' : Value} {T : List VI} {nv kv : Nat → Value} {cs : List Value} {p q : Int} (hr : w.ownsRow base 42 6 tv T.length cs) (hc : Cel cs T nv kv) (hrows : Rows2 w T nv kv) (hk : w.heap[kb]? = some (.cells #[.int .i64 p, .int .i64 q] 3 (0, 0))) (hn : T.length = n)
    (h1 : w'.ownsRow base 42 6 v' (n + 1) (cs ++ aggI { kind := 5, kids := [p, q] } (.slice none 0 0) (.slice (some ⟨kb, 0, none⟩) 2 2))) (h2 : w'.ownsRow base 42 6 tv n cs) (h3 : ∀ b, b < w.heap.size → some b ≠ tv.ownBlock → w'.heap[b]? = w.heap[b]?) :
    TreeAt w' v' (T ++ [{ kind := 5, kids := [p, q] }]) ∧ TreeAt w' tv T := by
  subst hn
  have hty : ∀ {e g v xs}, RowF w 0 e g v xs → e ≠ 42 → RowF w' 0 e g v xs := fun hr' he => hr'.kept fun hx => h3 _ (hr'.lt hx) fun e2 => by
    rcases hr.2 with ⟨rfl, _⟩ | ⟨g2, cap, cur, rfl, _, hgg, _⟩
    · cases e2
    · injection e2 with e2
      exact hr'.ne hx hgg he e2
  have hrows' : Rows2 w' T nv kv := fun k y hy => by
    obtain ⟨a, b, q1, q2⟩ := hrows k y hy
    exact ⟨a, b, hty q1 (by decide), hty q2 (by decide)⟩
  have hkb : w'.heap[kb]? = some (.cells #[.int .i64 p, .int .i64 q] 3 (0, 0)) := (h3 kb (Array.getElem?_eq_some_iff.1 hk).1 fun e2 => by
    rcases hr.2 with ⟨rfl, _⟩ | ⟨g2, cap, cur, rfl, _, hgg, _⟩
    · cases e2
    · injection e2 with e2
      have e3 : kb = g2 := e2
      rw [e3, hgg] at hk
      injection hk with hk; injection hk with _ hk; exact absurd hk (by decide)).trans hk
  refine ⟨?_, tree_row h2 hc fun k y hy => by obtain ⟨a, b, q1, q2⟩ := hrows' k y hy; exact ⟨q1.at, q2.at⟩⟩
  refine tree_row (nv := fun k => if k < T.length then nv k else .slice none 0 0) (kv := fun k => if k < T.length then kv k else .slice (some ⟨kb, 0, none⟩) 2 2) (by rw [List.length_append]; exact h1) ?_ ?_
  · intro k y hy j u hu
    have hj := agg_lt hu
    have hcl : cs.length = T.length * 6 := hr.1
    by_cases hk' : k < T.length
    · rw [List.getElem?_append_left hk'] at hy
      simp only [if_pos hk'] at hu
      rw [List.getElem?_append_left (by omega)]
      exact hc k y hy j u hu
    · have hkl := (List.getElem?_eq_some_iff.1 hy).1
      rw [List.length_append] at hkl
      simp only [List.length_cons, List.length_nil] at hkl
      have ek : k = T.length := by omega
      subst ek
      rw [List.getElem?_append_right (Nat.le_refl _), Nat.sub_self] at hy
      cases hy
      simp only [if_neg hk'] at hu
      rw [List.getElem?_append_right (by omega), show T.length * 6 + j - cs.length = j by omega]
      exact hu
  · intro k y hy
    by_cases hk' : k < T.length
    · rw [List.getElem?_append_left hk'] at hy
      simp only [if_pos hk']
      obtain ⟨a, b, q1, q2⟩ := hrows' k y hy
      exact ⟨q1.at, q2.at⟩
    · have hkl := (List.getElem?_eq_some_iff.1 hy).1
      rw [List.length_append] at hkl
      simp only [List.length_cons, List.length_nil] at hkl
      have ek : k = T.length := by omega
      subst ek
      rw [List.getElem?_append_right (Nat.le_refl _), Nat.sub_self] at hy
      cases hy
      simp only [if_neg hk']
      refine ⟨⟨none, 0, rfl, by simp, fun j u hu => by simp at hu⟩, ⟨_, 2, rfl, by simp, fun j u hu => ⟨_, rfl, ?_⟩⟩⟩
      rw [add0, cell_of_row _ kb j _ _ _ hkb]
      match j, hu with
      | 0, hu => exact hu
      | 1, hu => exact hu
      | j + 2, hu => simp at hu
end Go.Proofs.YtpffhckimilppaaDoor.Jn
