/-
  What the calls of queue's Key, Take, Drop and Put do.
-/
import Derived.Test.YtojkdmkeankcgaaQQue
namespace Go.Proofs.Ytojkdmkeankcgaa.Qu
open Go.RowKit Go.Maps

section
variable {w w' : World} {q ob mb : Nat} {v : Value} {L M X : List Pr} {S T : Nat → Prop}
/-- Where an item stands in the row. -/
theorem find_at (hd : Dis L) (hp : L.Perm X) (x : Int) : (look X x = none ∧ ∀ i, i < L.length → (at' L i).1 ≠ x) ∨ (∃ i, i < L.length ∧ (at' L i).1 = x ∧ look X x = some (at' L i)) := by
  rw [← look_perm hd hp]
  cases e : look L x with
  | none => exact .inl ⟨rfl, fun i hi => look_none.1 e _ (mem_at.2 ⟨i, hi, rfl⟩)⟩
  | some p =>
    obtain ⟨h1, h2⟩ := (look_some hd).1 e
    obtain ⟨i, hi, rfl⟩ := mem_at.1 h1
    exact .inr ⟨i, hi, h2, rfl⟩

theorem QAt.emp (h : QAt w q [] S) : Calls Try.prog 53 #[.pointer (some ⟨q, 0, none⟩)] w fun e w' => e = .returned (.tuple #[.int .i64 0, .int .i64 0, .bool false]) ∧ w' = w := by
  have HL := hide (qlen_any h)
  go_enter Try.func53, Try.ntmps53
  go_wp2_with (go_at_call 68; refine HL.out.mono ?_; rintro e w2 ⟨rfl, rfl⟩; simp only [List.length_nil])
  go_returns
  exact ⟨rfl, rfl⟩

theorem below_drewN {B : Nat} {a w : World} (h : Below B a w) (n : Nat) : Below B a (w.drewN n) := ⟨h.os, h.tape, h.output, by rw [drewN_heap]; exact h.size, fun k hk => by rw [drewN_heap]; exact h.block k hk⟩
theorem qfr (h : QAt w q X S) (hq : w.heap[q]? = some (.cells #[.pointer (some ⟨ob, 0, none⟩)] 108 (0, 0))) {X' : List Pr} (f : Fr (sub S q) w w') (hO' : HOrd w' ob mb X' (sub S q)) : QAt w' q X' S ∧ Fr S w w' :=
  ⟨⟨h.sq, fun k hk => Nat.lt_of_lt_of_le (h.lt k hk) f.size, .inr ⟨ob, mb, (f.block q (h.lt _ h.sq) (fun e => e.2 rfl)).trans hq, hO'⟩⟩, f.mono (fun _ e => e.1)⟩
theorem HOrd.widen (h : HOrd w ob mb X S) (hST : ∀ b, S b → T b) (hT : ∀ b, T b → b < w.heap.size) : HOrd w ob mb X T := by
  obtain ⟨v, L, hO, r⟩ := h; exact ⟨v, L, hO.widen hST hT, r⟩
theorem HOrd.perm {Y : List Pr} (h : HOrd w ob mb X S) (p : X.Perm Y) : HOrd w ob mb Y S := by
  obtain ⟨v, L, hO, hp, r⟩ := h; exact ⟨v, L, hO, hp.trans p, r⟩
theorem qgrow (h : QAt w q X S) (hq : w.heap[q]? = some (.cells #[.pointer (some ⟨ob, 0, none⟩)] 108 (0, 0))) {X' : List Pr} (f : Fr (sub S q) w w') (hO' : HOrd w' ob mb X' (grow (sub S q) w w')) : QAt w' q X' (grow S w w') ∧ Fr S w w' := by
  have hlt : ∀ b, grow S w w' b → b < w'.heap.size := fun b hb => by
    rcases hb with e | e
    · exact Nat.lt_of_lt_of_le (h.lt b e) f.size
    · exact e.2
  refine ⟨⟨.inl h.sq, hlt, .inr ⟨ob, mb, (f.block q (h.lt _ h.sq) (fun e => e.2 rfl)).trans hq, hO'.widen (fun b hb => ?_) (fun b hb => hlt b hb.1)⟩⟩, f.mono (fun _ e => e.1)⟩
  rcases hb with e | e
  · exact ⟨.inl e.1, e.2⟩
  · exact ⟨.inr e, fun e2 => by have := h.lt _ h.sq; omega⟩

set_option maxRecDepth 100000 in
set_option maxHeartbeats 800000 in
theorem take_any (h : QAt w q X S) (p : Pr) (hp : Least X p) :
    Calls Try.prog 53 #[.pointer (some ⟨q, 0, none⟩)] w fun e w' => e = .returned (.tuple #[.int .i64 p.1, .int .i64 p.2, .bool true]) ∧ QAt w' q (dropM X p.1) S ∧ Fr S w w' := by
  have hX : 0 < X.length := List.length_pos_of_mem hp.1
  have HL := hide (qlen_any h)
  rcases h.has with ⟨h1, rfl⟩ | ⟨ob, mb, h1, v, L, hO, hpm, hH⟩
  · simp at hX
  · have hL0 : 0 < L.length := by rw [hpm.length_eq]; exact hX
    have hl2 : X.length ≤ 4096 := h.len
    have e0 : at' L 0 = p := by
      have l1 : Least L (at' L 0) := ⟨mem_at.2 ⟨0, hL0, rfl⟩, fun y hy => by obtain ⟨i, hi, rfl⟩ := mem_at.1 hy; exact hH.least i hi⟩
      exact (l1.perm hpm).uniq hp
    have HR := remove_any hO hH 0 hL0
    rw [e0] at HR
    have HR2 : Calls Try.prog 69 #[.pointer (some ⟨ob, 0, none⟩), .int .i64 0] w fun e w' => e = .returned (.agg #[.int .i64 p.1, .int .i64 p.2]) ∧ QAt w' q (dropM X p.1) S ∧ Fr S w w' := by
      refine HR.mono ?_
      rintro e w' ⟨rfl, L', hp', hO', hF'⟩
      exact ⟨rfl, qfr h h1 hF' (hO'.perm (dropM_perm_last h.dis (hp'.trans hpm)))⟩
    replace HR2 := hide HR2
    have c0 := cell_of_row w q 0 _ _ _ h1
    simp only [List.getElem?_toArray, List.getElem?_cons_zero] at c0
    have hne : ((X.length : Int) == 0) = false := by simp; intro e; rw [e] at hX; simp at hX
    clear h h1 hO hH HR e0 hp hpm
    obtain ⟨x, k⟩ := p
    go_enter Try.func53, Try.ntmps53
    go_wp2_with (first | (go_at_call 68; refine HL.out.mono ?_; rintro e w2 ⟨rfl, rfl⟩) | (go_at_call 69; refine HR2.out.mono ?_; rintro e w3 ⟨rfl, hQ, hF⟩; have HQ := hide (And.intro hQ hF); clear hQ hF; simp only))
    go_quiet (fail)
    go_wp2
    go_returns
    have hb : Below w3.heap.size w3 ((w3.alloc (.cells #[.int .i64 x, .int .i64 k] 121)).drewN nq) := below_drewN ((Below.refl _ _).alloc (Nat.le_refl _) _) _
    exact ⟨rfl, HQ.out.1.later hb, HQ.out.2.trans0 (Fr.of_below hb)⟩

theorem drop_none {x : Int} (h : look X x = none) : dropM X x = X := by
  unfold dropM
  rw [List.filter_eq_self]
  intro p hp
  simpa using look_none.1 h p hp

theorem qin_put (h : QAt w q X S) (hq : QIn w q ob mb X S) (x k : Int) (hx : I64 x) (hk : I64 k) :
    (∃ i, Calls Try.prog 56 #[.pointer (some ⟨q, 0, none⟩), .int .i64 x] w (fun e w' => e = .returned (.tuple #[.int .i64 i, .bool true]) ∧ w' = w) ∧
      Calls Try.prog 57 #[.pointer (some ⟨ob, 0, none⟩), .int .i64 i, .int .i64 k] w fun e w' => e = .returned (.bool (putM X x k).2) ∧ QAt w' q (putM X x k).1 (grow S w w') ∧ Fr S w w') ∨
    (Calls Try.prog 56 #[.pointer (some ⟨q, 0, none⟩), .int .i64 x] w (fun e w' => e = .returned (.tuple #[.int .i64 0, .bool false]) ∧ w' = w) ∧
      Calls Try.prog 58 #[.pointer (some ⟨ob, 0, none⟩), .int .i64 x, .int .i64 k] w fun e w' => e = .returned (.bool (putM X x k).2) ∧ QAt w' q (putM X x k).1 (grow S w w') ∧ Fr S w w') := by
  obtain ⟨h1, v, L, hO, hp, hH⟩ := hq
  have hsame : QAt w q X (grow S w w) := h.widen (fun b e => .inl e) (fun b e => by rcases e with e | e; exact h.lt b e; omega)
  have hwide : ∀ {w' : World} {X' : List Pr}, QAt w' q X' S ∧ Fr S w w' → QAt w' q X' (grow S w w') ∧ Fr S w w' := fun {w' X'} hh =>
    ⟨hh.1.widen (fun b e => .inl e) (fun b e => by rcases e with e | e; exact hh.1.lt b e; exact e.2), hh.2⟩
  rcases find_at hO.dis hp x with ⟨e1, hn⟩ | ⟨i, hi, e1, e2⟩
  · refine .inr ⟨place_out h1 hO x hx hn, ?_⟩
    have hpm : putM X x k = if X.length < 4096 then (X ++ [(x, k)], true) else (X, false) := by unfold putM; rw [e1]
    rw [hpm]
    by_cases hl : X.length < 4096
    · rw [if_pos hl]
      refine (add_any hO hH x k hx hk hn (by rw [hp.length_eq]; exact hl)).mono ?_
      rintro e w' ⟨rfl, hO', hF'⟩
      exact ⟨rfl, qgrow h h1 hF' (hO'.perm (hp.append_right _))⟩
    · rw [if_neg hl]
      refine (add_full hO x k (by rw [hp.length_eq]; omega)).mono ?_
      rintro e w' ⟨rfl, rfl⟩
      exact ⟨rfl, hsame, Fr.refl _ _⟩
  · refine .inl ⟨i, by have := place_in h1 hO i hi; rw [e1] at this; exact this, ?_⟩
    have hpm : putM X x k = if k < (at' L i).2 then (X.map (repl x k), true) else (X, false) := by unfold putM; rw [e2]
    rw [hpm]
    by_cases hl : k < (at' L i).2
    · rw [if_pos hl]
      refine (lower_any hO hH i hi k hk hl).mono ?_
      rintro e w' ⟨rfl, hO', hF'⟩
      refine ⟨rfl, hwide (qfr h h1 hF' (hO'.perm ?_))⟩
      rw [set_repl hO.dis hi, e1]
      exact hp.map _
    · rw [if_neg hl]
      refine (lower_no hO i hi k (by omega)).mono ?_
      rintro e w' ⟨rfl, rfl⟩
      exact ⟨rfl, hsame, Fr.refl _ _⟩

set_option maxRecDepth 100000 in
set_option maxHeartbeats 800000 in
theorem put_in (h : QAt w q X S) (hq : QIn w q ob mb X S) (x k : Int) (hx : I64 x) (hk : I64 k) :
    Calls Try.prog 36 #[.pointer (some ⟨q, 0, none⟩), .int .i64 x, .int .i64 k] w fun e w' => e = .returned (.bool (putM X x k).2) ∧ QAt w' q (putM X x k).1 (grow S w w') ∧ Fr S w w' := by
  have c0 := cell_of_row w q 0 _ _ _ hq.1
  simp only [List.getElem?_toArray, List.getElem?_cons_zero] at c0
  rcases qin_put h hq x k hx hk with ⟨i, h1, h2⟩ | ⟨h1, h2⟩
  · have H1 := hide h1
    have H2 := hide h2
    clear h1 h2 h hq
    go_enter Try.func36, Try.ntmps36
    go_wp2_with (first | (go_at_call 56; refine H1.out.mono ?_; rintro e w2 ⟨rfl, rfl⟩) | (go_at_call 57; refine H2.out.mono ?_; rintro e w3 ⟨rfl, HQ⟩))
    go_ret
    exact ⟨rfl, HQ⟩
  · have H1 := hide h1
    have H2 := hide h2
    clear h1 h2 h hq
    go_enter Try.func36, Try.ntmps36
    go_wp2_with (first | (go_at_call 56; refine H1.out.mono ?_; rintro e w2 ⟨rfl, rfl⟩) | (go_at_call 58; refine H2.out.mono ?_; rintro e w3 ⟨rfl, HQ⟩))
    go_ret
    exact ⟨rfl, HQ⟩

/-- The world behind a first Put's making of the order. -/
def made (w : World) (q : Nat) : World := ((w.alloc (.map #[] 0)).alloc (.cells #[.slice none 0 0, .map (some w.heap.size)] 112)).setCell ⟨q, 0, none⟩ (.pointer (some ⟨w.heap.size + 1, 0, none⟩))
theorem made_q (h : QAt w q [] S) (h1 : w.heap[q]? = some (.cells #[.pointer none] 108 (0, 0))) :
    QAt (made w q) q [] (grow S w (made w q)) ∧ QIn (made w q) q (w.heap.size + 1) w.heap.size [] (grow S w (made w q)) ∧ Fr S w (made w q) := by
  have hq := h.lt _ h.sq
  have hsz : (made w q).heap.size = w.heap.size + 2 := by simp [made, World.setCell]
  have hF : Fr S w (made w q) := (((Fr.refl S w).alloc _).alloc _).setCell _ _ (.inl h.sq)
  have hm0 : (w.alloc (.map #[] 0)).heap[w.heap.size]? = some (.map #[] 0) := heap_alloc_new _ _
  have hsz1 : (w.alloc (.map #[] 0)).heap.size = w.heap.size + 1 := by simp
  have hbq : ((w.alloc (.map #[] 0)).alloc (.cells #[.slice none 0 0, .map (some w.heap.size)] 112)).heap[q]? = some (.cells #[.pointer none] 108 (0, 0)) := by
    rw [Below.heap_alloc _ _ _ (by omega), Below.heap_alloc _ _ _ hq]; exact h1
  have hB1 : (made w q).heap[w.heap.size + 1]? = some (.cells #[.slice none 0 0, .map (some w.heap.size)] 112 (0, 0)) := by
    unfold made
    rw [heap_setCell_other _ ⟨q, 0, none⟩ _ _ (by show w.heap.size + 1 ≠ q; omega)]
    have := heap_alloc_new (w.alloc (.map #[] 0)) (.cells #[.slice none 0 0, .map (some w.heap.size)] 112)
    rw [hsz1] at this
    exact this
  have hB0 : (made w q).heap[w.heap.size]? = (w.alloc (.map #[] 0)).heap[w.heap.size]? := by
    unfold made
    rw [heap_setCell_other _ ⟨q, 0, none⟩ _ _ (by show w.heap.size ≠ q; omega), Below.heap_alloc _ _ _ (by omega)]
  have hQ : (made w q).heap[q]? = some (.cells #[.pointer (some ⟨w.heap.size + 1, 0, none⟩)] 108 (0, 0)) := by
    unfold made
    rw [heap_setCell_same _ q 0 _ _ _ hbq]; rfl
  have hlt : ∀ b, grow S w (made w q) b → b < (made w q).heap.size := fun b e => by
    rcases e with e | e
    · have := h.lt b e; omega
    · exact e.2
  have hmap : MapIs (w.alloc (.map #[] 0)) w.heap.size [] := ⟨.map [], World.ownsMap_made _ _ _ _, ⟨fun i hi => by simp at hi, fun x _ => rfl, rfl⟩⟩
  have hin : QIn (made w q) q (w.heap.size + 1) w.heap.size [] (grow S w (made w q)) := by
    refine ⟨hQ, .slice none 0 0, [], ⟨hB1, World.ownsRow_nil _ _ _ _, hmap.of_block hB0, ⟨.inr (by omega), by omega⟩, ⟨.inr (by omega), by omega⟩, (fun g e => by cases e), fun b e => hlt b e.1, fun i hi => by simp at hi, by simp⟩, .refl _, fun k _ hk => by simp at hk⟩
  exact ⟨⟨.inl h.sq, hlt, .inr ⟨_, _, hin⟩⟩, hin, hF⟩
theorem grow_grow {w1 : World} (hX : QAt w' q X (grow (grow S w w1) w1 w')) (hF1 : Fr S w w1) (hF2 : Fr (grow S w w1) w1 w') : QAt w' q X (grow S w w') ∧ Fr S w w' := by
  refine ⟨hX.widen (fun b e => ?_) (fun b e => ?_), hF1.trans hF2 (fun b e => ?_)⟩
  · rcases e with (e | e) | e
    · exact .inl e
    · exact .inr ⟨e.1, Nat.lt_of_lt_of_le e.2 hF2.size⟩
    · exact .inr ⟨Nat.le_trans hF1.size e.1, e.2⟩
  · rcases e with e | e
    · exact hX.lt b (.inl (.inl e))
    · exact e.2
  · rcases e with e | e
    · exact .inl e
    · exact .inr e.1
set_option maxRecDepth 100000 in
set_option maxHeartbeats 800000 in
theorem put_any (h : QAt w q X S) (x k : Int) (hx : I64 x) (hk : I64 k) :
    Calls Try.prog 36 #[.pointer (some ⟨q, 0, none⟩), .int .i64 x, .int .i64 k] w fun e w' => e = .returned (.bool (putM X x k).2) ∧ QAt w' q (putM X x k).1 (grow S w w') ∧ Fr S w w' := by
  rcases h.has with ⟨h1, rfl⟩ | ⟨ob, mb, hq⟩
  · obtain ⟨g1, g2, g3⟩ := made_q h h1
    have c0 := cell_of_row w q 0 _ _ _ h1
    simp only [List.getElem?_toArray, List.getElem?_cons_zero] at c0
    have zf := frozen_of_row w q 0 _ _ h1
    have hql := h.lt _ h.sq
    have hb2 : Below w.heap.size w ((w.alloc (.map #[] 0)).alloc (.cells #[.slice none 0 0, .map (some w.heap.size)] 112)) := ((Below.refl _ _).alloc (Nat.le_refl _) _).alloc (by simp) _
    have c1 := (hb2.cell (p := ⟨q, 0, none⟩) hql).trans c0
    have z1 := (hb2.frozen (p := ⟨q, 0, none⟩) hql).trans zf
    have hmm := @run_makeMap Try.prog
    have cm := cell_of_row (made w q) q 0 _ _ _ g2.1
    simp only [List.getElem?_toArray, List.getElem?_cons_zero] at cm
    rcases qin_put g1 g2 x k hx hk with ⟨i, h3, h4⟩ | ⟨h3, h4⟩
    · have H3 := hide h3
      have H4 := hide (And.intro h4 g3)
      clear h3 h4 h g1 g2 g3 h1 hb2 hql
      go_enter Try.func36, Try.ntmps36
      go_wp2_with (first | (go_at_call 56; refine (show Calls _ _ _ (made w q) _ from H3.out).mono ?_; rintro e w2 ⟨rfl, rfl⟩) | (go_at_call 57; refine H4.out.1.mono ?_; rintro e w3 ⟨rfl, HQ⟩))
      go_ret
      exact ⟨rfl, grow_grow HQ.1 H4.out.2 HQ.2⟩
    · have H3 := hide h3
      have H4 := hide (And.intro h4 g3)
      clear h3 h4 h g1 g2 g3 h1 hb2 hql
      go_enter Try.func36, Try.ntmps36
      go_wp2_with (first | (go_at_call 56; refine (show Calls _ _ _ (made w q) _ from H3.out).mono ?_; rintro e w2 ⟨rfl, rfl⟩) | (go_at_call 58; refine H4.out.1.mono ?_; rintro e w3 ⟨rfl, HQ⟩))
      go_ret
      exact ⟨rfl, grow_grow HQ.1 H4.out.2 HQ.2⟩
  · exact put_in h hq x k hx hk
end
end Go.Proofs.Ytojkdmkeankcgaa.Qu
