/-
  What the calls of container/heap's Push, Fix and Remove do over an order.
-/
import Derived.Test.YtojkdmkeankcgaaQDown
import Derived.Test.YtojkdmkeankcgaaQPush
import Derived.Test.YtojkdmkeankcgaaQPop
namespace Go.Proofs.Ytojkdmkeankcgaa.Qu
open Go.RowKit Go.Maps

/-- S, and what is new since w. -/
def grow (S : Nat → Prop) (w w' : World) : Nat → Prop := fun b => S b ∨ w.heap.size ≤ b ∧ b < w'.heap.size
section
variable {w w' : World} {ob mb : Nat} {v : Value} {L M X : List Pr} {S T : Nat → Prop}
theorem Ord.widen (h : Ord w ob mb v L M S) (hST : ∀ b, S b → T b) (hT : ∀ b, T b → b < w.heap.size) : Ord w ob mb v L M T :=
  ⟨h.blk, h.row, h.map, hST _ h.so, hST _ h.sm, fun g e => hST _ (h.sr g e), hT, h.wf, h.len⟩
/-- An order in memory that holds just X. -/
def HOrd (w : World) (ob mb : Nat) (X : List Pr) (S : Nat → Prop) : Prop := ∃ v L, Ord w ob mb v L L S ∧ L.Perm X ∧ Heap L L.length

set_option maxRecDepth 100000 in
set_option maxHeartbeats 800000 in
theorem hpush_any (h : Ord w ob mb v L L S) (hh : Heap L L.length) (x k : Int) (hx : I64 x) (hk : I64 k) (hn : ∀ i, i < L.length → (at' L i).1 ≠ x) (hl : L.length < 4096) :
    Calls Try.prog 72 #[.iface 106 (.pointer (some ⟨ob, 0, none⟩)), .iface 121 (.agg #[.int .i64 x, .int .i64 k])] w fun e w' => e = .returned (.tuple #[]) ∧ HOrd w' ob mb (L ++ [(x, k)]) (grow S w w') ∧ Fr S w w' := by
  have HP := hide (push_any h x k hx hk hn hl)
  have HU := hide (hh.push (x, k))
  have m1 := methodPush ⟨ob, 0, none⟩
  have m2 := methodLen ⟨ob, 0, none⟩
  have HS := hide h.lt
  clear h hh hn
  go_enter Try.func72, Try.ntmps72
  go_wp2_with (first | (go_at_call 135; refine HP.out.mono ?_; rintro e w1 ⟨rfl, v1, hO1, hF1⟩; have HO1 := hide hO1; clear hO1) | (go_at_call 87; refine (len_any HO1.out).mono ?_; rintro e w2 ⟨rfl, rfl⟩; simp only [List.length_append, List.length_cons, List.length_nil]) | (go_at_call 90; refine (up_any HO1.out (L ++ [(x, k)]).length L.length HU.out (Nat.le_refl _) (by simp)).mono ?_; rintro e w3 ⟨rfl, L', hO3, hF3, hS3, hH3⟩))
  go_end0
  have hlt : ∀ b, grow S w w3 b → b < w3.heap.size := fun b hb => by
    rcases hb with h | h
    · exact Nat.lt_of_lt_of_le (HS.out b h) (Nat.le_trans hF1.size hF3.size)
    · exact h.2
  refine ⟨rfl, ⟨v1, L', hO3.widen (fun b hb => ?_) hlt, hS3.perm, by rw [hS3.len]; exact hH3⟩, hF1.trans hF3 (fun b hb => ?_)⟩
  · rcases hb with h | h
    · exact .inl h
    · exact .inr ⟨h.1, Nat.lt_of_lt_of_le h.2 hF3.size⟩
  · rcases hb with h | h
    · exact .inl h
    · exact .inr h.1

/-- Behind a down that moved something. -/
def DT (w w' : World) (ob mb : Nat) (v : Value) (L L' : List Pr) (S : Nat → Prop) (n : Nat) : Prop := Ord w' ob mb v L' L' S ∧ Fr S w w' ∧ Sw n L L' ∧ Heap L' n
/-- Behind a down that moved nothing. -/
def DF (w w' : World) (ob mb : Nat) (v : Value) (L L' : List Pr) (S : Nat → Prop) (n i : Nat) : Prop := Ord w' ob mb v L' L' S ∧ Fr S w w' ∧ Sw n L L' ∧ Up L' n i
theorem down_or (h : Ord w ob mb v L L S) (n i : Nat) (hd : FixAt L n i) (hn : n ≤ L.length) (hi : i < n) :
    Calls Try.prog 89 #[.iface 106 (.pointer (some ⟨ob, 0, none⟩)), .int .i64 i, .int .i64 n] w fun e w' => (∃ L', e = .returned (.bool true) ∧ DT w w' ob mb v L L' S n) ∨ (∃ L', e = .returned (.bool false) ∧ DF w w' ob mb v L L' S n i) := by
  refine (down_any h n i hd hn hi).mono ?_
  rintro e w' ⟨b, L', rfl, h1, h2, h3, h4, h5⟩
  cases b
  · exact .inr ⟨L', rfl, h1, h2, h3, h5 rfl⟩
  · exact .inl ⟨L', rfl, h1, h2, h3, h4 rfl⟩
theorem up_dt (h : Ord w ob mb v L L S) (n j : Nat) (hu : Up L n j) (hn : n ≤ L.length) (hj : j < n) :
    Calls Try.prog 90 #[.iface 106 (.pointer (some ⟨ob, 0, none⟩)), .int .i64 j] w fun e w' => e = .returned (.tuple #[]) ∧ ∃ L', DT w w' ob mb v L L' S n := by
  refine (up_any h n j hu hn hj).mono ?_
  rintro e w' ⟨rfl, L', h1, h2, h3, h4⟩
  exact ⟨rfl, L', h1, h2, h3, h4⟩

set_option maxRecDepth 100000 in
set_option maxHeartbeats 800000 in
theorem fix_any (h : Ord w ob mb v L L S) (i : Nat) (hf : FixAt L L.length i) (hi : i < L.length) :
    Calls Try.prog 71 #[.iface 106 (.pointer (some ⟨ob, 0, none⟩)), .int .i64 i] w fun e w' => e = .returned (.tuple #[]) ∧ HOrd w' ob mb L S ∧ Fr S w w' := by
  have HL := hide (len_any h)
  have HD := hide (down_or h L.length i hf (Nat.le_refl _) hi)
  have m2 := methodLen ⟨ob, 0, none⟩
  clear h hf
  go_enter Try.func71, Try.ntmps71
  go_wp2_with (first | (go_at_call 87; refine HL.out.mono ?_; rintro e w2 ⟨rfl, rfl⟩) | (go_at_call 89; refine HD.out.mono ?_; rintro e w3 (⟨L', rfl, HT⟩ | ⟨L', rfl, HF⟩)) | (go_at_call 90; refine (up_dt HF.1 L.length i HF.2.2.2 (Nat.le_of_eq HF.2.2.1.len.symm) hi).mono ?_; rintro e w4 ⟨rfl, L4, H4⟩))
  · go_end0
    exact ⟨rfl, ⟨v, L', HT.1, HT.2.2.1.perm, by rw [HT.2.2.1.len]; exact HT.2.2.2⟩, HT.2.1⟩
  · go_end0
    have hS := HF.2.2.1.trans H4.2.2.1
    exact ⟨rfl, ⟨v, L4, H4.1, hS.perm, by rw [hS.len]; exact H4.2.2.2⟩, HF.2.1.trans0 H4.2.1⟩

theorem take_last {L : List Pr} {n : Nat} (h : L.length = n + 1) : L.take n ++ [at' L n] = L := by
  have : at' L n = L[n]'(by omega) := by simp [at', List.getD_eq_getElem?_getD, h]
  rw [this, ← List.take_succ_eq_append_getElem (by omega), List.take_of_length_le (by omega)]
theorem Heap.take {n m : Nat} (h : Heap L n) (hm : m ≤ n) : Heap (L.take m) m := fun k h0 hk => by
  have hp := par_lt h0
  unfold ok
  rw [at_take hk, at_take (by omega)]
  exact h k h0 (by omega)
/-- What stands behind a Remove: the pair goes out of the row, not yet out of the map. -/
def RemEnd (w : World) (ob mb : Nat) (L : List Pr) (S : Nat → Prop) (p : Pr) (e : Ending) (w' : World) : Prop :=
  e = .returned (.iface 121 (.agg #[.int .i64 p.1, .int .i64 p.2])) ∧ ∃ v' L', Ord w' ob mb v' L' (L' ++ [p]) S ∧ Fr S w w' ∧ Heap L' L'.length ∧ (L' ++ [p]).Perm L
theorem rem_end {w4 w5 : World} {L4 : List Pr} {n : Nat} {p : Pr} {e : Ending} (hl : L4.length = n + 1) (hp : at' L4 n = p) (hH : Heap L4 n) (hP : L4.Perm L) (hF : Fr S w w4)
    (h : e = .returned (.iface 121 (.agg #[.int .i64 (at' L4 n).1, .int .i64 (at' L4 n).2])) ∧ ∃ v', Ord w5 ob mb v' (L4.take n) L4 S ∧ Fr S w4 w5) : RemEnd w ob mb L S p e w5 := by
  obtain ⟨rfl, v', hO, hF5⟩ := h
  have ht := take_last hl
  rw [hp] at ht
  refine ⟨by rw [hp], v', L4.take n, by rw [ht]; exact hO, hF.trans0 hF5, ?_, by rw [ht]; exact hP⟩
  rw [show (L4.take n).length = n by simp; omega]
  exact hH.take (Nat.le_refl _)

set_option maxRecDepth 100000 in
set_option maxHeartbeats 1600000 in
theorem hremove_any (h : Ord w ob mb v L L S) (hh : Heap L L.length) (i : Nat) (hi : i < L.length) :
    Calls Try.prog 88 #[.iface 106 (.pointer (some ⟨ob, 0, none⟩)), .int .i64 i] w (RemEnd w ob mb L S (at' L i)) := by
  obtain ⟨n, hn⟩ : ∃ n, L.length = n + 1 := ⟨L.length - 1, by omega⟩
  have HL := len_any h
  rw [hn, show ((n + 1 : Nat) : Int) = (n : Int) + 1 by omega] at HL
  replace HL := hide HL
  have m2 := methodLen ⟨ob, 0, none⟩
  have m3 := methodPop ⟨ob, 0, none⟩
  have hl := h.len
  rw [hn] at hl
  by_cases hin : i = n
  · subst hin
    have HP := hide (pop_any h i hn)
    have HE : Hid (∀ e w5, (e = .returned (.iface 121 (.agg #[.int .i64 (at' L i).1, .int .i64 (at' L i).2])) ∧ ∃ v', Ord w5 ob mb v' (L.take i) L S ∧ Fr S w w5) → RemEnd w ob mb L S (at' L i) e w5) := fun e w5 hx => rem_end hn rfl (fun k h0 hk => hh k h0 (by omega)) (.refl _) (Fr.refl _ _) hx
    clear h hh hn hi
    have hne : ((i : Int) != (i : Int)) = false := by simp
    go_enter Try.func88, Try.ntmps88
    go_wp2_with (first | (go_at_call 87; refine HL.out.mono ?_; rintro e w2 ⟨rfl, rfl⟩) | (go_at_call 134; refine HP.out.mono ?_; rintro e w5 ⟨rfl, hx⟩))
    go_ret
    exact HE.out _ _ ⟨rfl, hx⟩
  · have hi' : i < n := by omega
    have HSw := hide (swap_any h i n hi (by omega) hin)
    have hsw := at_swp L hi (show n < L.length by omega)
    have hfix : FixAt (swp L i n) n i := Heap.fix (L := L) (fun k h0 hk => hh k h0 (by omega)) hi' (fun k hk hne => by rw [hsw, if_neg (by omega), if_neg hne])
    have hlast : at' (swp L i n) n = at' L i := by rw [hsw, if_pos rfl]
    have hlen : (swp L i n).length = n + 1 := by rw [swp_len]; exact hn
    have hperm := swp_perm L hi (show n < L.length by omega)
    obtain ⟨L1, hL1⟩ : ∃ L1, swp L i n = L1 := ⟨_, rfl⟩
    rw [hL1] at HSw hfix hlast hlen hperm
    have HD : Hid (∀ w1, Ord w1 ob mb v L1 L1 S → Calls Try.prog 89 #[.iface 106 (.pointer (some ⟨ob, 0, none⟩)), .int .i64 i, .int .i64 n] w1 fun e w' => (∃ L', e = .returned (.bool true) ∧ DT w1 w' ob mb v L1 L' S n) ∨ (∃ L', e = .returned (.bool false) ∧ DF w1 w' ob mb v L1 L' S n i)) := fun w1 h1 => down_or h1 n i hfix (by omega) hi'
    have HU : Hid (∀ w1 w3 L3, DF w1 w3 ob mb v L1 L3 S n i → Calls Try.prog 90 #[.iface 106 (.pointer (some ⟨ob, 0, none⟩)), .int .i64 i] w3 fun e w' => e = .returned (.tuple #[]) ∧ ∃ L', DT w3 w' ob mb v L3 L' S n) := fun w1 w3 L3 h1 => up_dt h1.1 n i h1.2.2.2 (by rw [h1.2.2.1.len]; omega) hi'
    have HE : Hid (∀ w4 L4, Sw n L1 L4 → Heap L4 n → Fr S w w4 → ∀ e w5, (e = .returned (.iface 121 (.agg #[.int .i64 (at' L4 n).1, .int .i64 (at' L4 n).2])) ∧ ∃ v', Ord w5 ob mb v' (L4.take n) L4 S ∧ Fr S w4 w5) → RemEnd w ob mb L S (at' L i) e w5) :=
      fun w4 L4 hs hH hF e w5 hx => rem_end (by rw [hs.len]; exact hlen) ((hs.rest n (Nat.le_refl _)).trans hlast) hH (hs.perm.trans hperm) hF hx
    have HPop : Hid (∀ w4 L4, Ord w4 ob mb v L4 L4 S → Sw n L1 L4 → Calls Try.prog 134 #[.pointer (some ⟨ob, 0, none⟩)] w4 fun e w' => e = .returned (.iface 121 (.agg #[.int .i64 (at' L4 n).1, .int .i64 (at' L4 n).2])) ∧ ∃ v', Ord w' ob mb v' (L4.take n) L4 S ∧ Fr S w4 w') := fun w4 L4 h1 h2 => pop_any h1 n (by rw [h2.len]; exact hlen)
    have m1 := methodSwap ⟨ob, 0, none⟩
    have hne : ((n : Int) != (i : Int)) = true := by simp; omega
    clear h hh hn hi hsw hfix hlast hlen hperm hL1
    go_enter Try.func88, Try.ntmps88
    go_wp2_with (first | (go_at_call 87; refine HL.out.mono ?_; rintro e w2 ⟨rfl, rfl⟩) | (go_at_call 136; refine HSw.out.mono ?_; rintro e w1 ⟨rfl, hO1, hF1⟩; have HO1 := hide (And.intro hO1 hF1); clear hO1 hF1) | (go_at_call 89; refine (HD.out _ HO1.out.1).mono ?_; rintro e w3 (⟨L3, rfl, HT⟩ | ⟨L3, rfl, HF⟩)) | (go_at_call 90; refine (HU.out _ _ _ HF).mono ?_; rintro e w4 ⟨rfl, L4, H4⟩) | (go_at_call 134; refine (HPop.out _ _ H4.1 (HF.2.2.1.trans H4.2.2.1)).mono ?_; rintro e w5 ⟨rfl, hx⟩) | (go_at_call 134; refine (HPop.out _ _ HT.1 HT.2.2.1).mono ?_; rintro e w5 ⟨rfl, hx⟩))
    · go_ret
      exact HE.out _ _ HT.2.2.1 HT.2.2.2 (HO1.out.2.trans0 HT.2.1) _ _ ⟨rfl, hx⟩
    · go_ret
      exact HE.out _ _ (HF.2.2.1.trans H4.2.2.1) H4.2.2.2 ((HO1.out.2.trans0 HF.2.1).trans0 H4.2.1) _ _ ⟨rfl, hx⟩
end
end Go.Proofs.Ytojkdmkeankcgaa.Qu
