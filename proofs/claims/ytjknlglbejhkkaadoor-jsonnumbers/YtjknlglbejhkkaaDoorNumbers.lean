/-
  What the law of numbers' texts (JsonNumbers) does.
-/
import Derived.Test.YtjknlglbejhkkaaDoorNumPlain
import Derived.Test.YtjknlglbejhkkaaDoorRefNum
import Derived.Test.YtjknlglbejhkkaaDoorNests
namespace Go.Proofs.YtjknlglbejhkkaaDoor
open Go.RowKit

def sufL (k : Nat) : List UInt8 := if k = 0 then [46, 48] else if k = 1 then [101, 49] else if k = 2 then [69, 43, 49] else [45]
theorem suf_len (k : Nat) : (sufL k).length ≤ 3 := by unfold sufL; (repeat' split) <;> simp
theorem suf_num (k : Nat) : (sufL k).all (fun x => numeralB x.toNat) = true := by unfold sufL; (repeat' split) <;> decide
theorem suf_odd (k : Nat) : ∃ x ∈ sufL k, digB x = false := by
  unfold sufL
  split
  · exact ⟨46, by simp, by decide⟩
  split
  · exact ⟨101, by simp, by decide⟩
  split
  · exact ⟨69, by simp, by decide⟩
  · exact ⟨45, by simp, by decide⟩
theorem parse_first (n : Int) (h0 : -9223372036854775808 ≤ n) (h1 : n ≤ 9223372036854775807) : parseM (91 :: Lib.itoa n ++ [93]) = if fitsB n = true then .ok [{ kind := 3, num := n }, { kind := 5, kids := [0] }] 0 else .bad 1 25 := by
  obtain ⟨c, t, e, hall, hc⟩ := itoa_shape n
  have hs := itoa_short n h0 h1
  have hb := back_num n
  rw [e] at hs hb
  simp only [List.length_cons] at hs
  unfold parseM
  rw [e, if_neg (by simp; omega)]
  have := read_one t c (by omega) hall hc
  rw [show (91 :: c :: t ++ [93] : List UInt8) = [91] ++ (c :: t) ++ [93] by rfl, this, hb.1, hb.2]
  cases fitsB n <;> rfl
theorem parse_odd (n : Int) (h0 : -9223372036854775808 ≤ n) (h1 : n ≤ 9223372036854775807) (k : Nat) : parseM ([91, 55, 44] ++ (Lib.itoa n ++ sufL k) ++ [93]) = .bad 3 25 := by
  obtain ⟨c, t, e, hall, hc⟩ := itoa_shape n
  have hs := itoa_short n h0 h1
  have hl := suf_len k
  rw [e] at hs
  simp only [List.length_cons] at hs
  obtain ⟨x, hx, hd⟩ := suf_odd k
  have hp := odd_bad c t (sufL k) x hx hd
  unfold parseM
  rw [e, if_neg (by simp; omega)]
  exact read_two (t ++ sufL k) c (by rw [← List.cons_append, List.all_append, hall, suf_num]; rfl) hc (by rw [← List.cons_append, hp]; decide)

/-- A string's bytes, parsed: what stands in the way of a walk is named. -/
theorem parse_txt (l : List UInt8) (w0 w : World) (hl : l.length ≤ 1000) (hb : Below w0.heap.size w0 w) (ht : Lib.Utf8Tabs 0 1 w0) (hw : 2 ≤ w0.heap.size) :
    ∃ (C : Nat) (D : Array Value) (fz : Nat × Nat), (convert 9 22 (.string ⟨l.toArray⟩)).run Tryd.prog w = .ok (.slice (some ⟨w.heap.size, 0, none⟩) l.length C) (w.drew.alloc (.cells D 5 fz)) ∧
      Hid (Calls Tryd.prog 10 #[.slice (some ⟨w.heap.size, 0, none⟩) l.length C] (w.drew.alloc (.cells D 5 fz)) fun e w' => DoneR (w.drew.alloc (.cells D 5 fz)) (parseM l) e w' ∧ (∀ k, k < w.heap.size → w'.heap[k]? = w.heap[k]?) ∧ Below w0.heap.size w0 w' ∧ w.heap.size ≤ w'.heap.size) := by
  obtain ⟨C, D, fz, hcv, h1, h2, hD⟩ := bytes_of l w (by omega)
  refine ⟨C, D, fz, hcv, ?_⟩
  have H := parse_new l w C D fz h1 h2 hD (tabs_below hb hw ht) (Nat.le_trans hw hb.size)
  refine Calls.mono H ?_
  intro e w' h
  have hB : Below (w.drew.alloc (.cells D 5 fz)).heap.size (w.drew.alloc (.cells D 5 fz)) w' := by
    cases hM : parseM l with
    | ok T z => rw [hM] at h; obtain ⟨_, _, _, _, _, hb⟩ := h; exact hb
    | bad z c => rw [hM] at h; exact h.2
  refine ⟨h, fun k hk => ?_, (hb.drew.alloc hb.size _).trans (hB.mono (by have := hb.size; simp; omega)), ?_⟩
  · rw [hB.block k (by simp; omega)]
    exact Below.heap_alloc w.drew _ k hk
  · have := hB.size; simp at this; omega

theorem parse_good (n : Int) (L : List UInt8) (hM : parseM L = .ok [{ kind := 3, num := n }, { kind := 5, kids := [0] }] 0) (w0 w : World) (hl : L.length ≤ 1000) (hb : Below w0.heap.size w0 w) (ht : Lib.Utf8Tabs 0 1 w0) (hw : 2 ≤ w0.heap.size) :
    ∃ (C : Nat) (D : Array Value) (fz : Nat × Nat), (convert 9 22 (.string ⟨L.toArray⟩)).run Tryd.prog w = .ok (.slice (some ⟨w.heap.size, 0, none⟩) L.length C) (w.drew.alloc (.cells D 5 fz)) ∧
      Hid (Calls Tryd.prog 10 #[.slice (some ⟨w.heap.size, 0, none⟩) L.length C] (w.drew.alloc (.cells D 5 fz)) fun e w' => ∃ g cap, e = .returned (.tuple #[.slice (some ⟨g, 0, none⟩) 2 cap, .int .i64 0, .int .i64 0]) ∧ w'.cell? ⟨g, 0, none⟩ = some (.int .i64 3) ∧ w'.cell? ⟨g, 2, none⟩ = some (.int .i64 n) ∧ Below w0.heap.size w0 w') := by
  obtain ⟨C, D, fz, hcv, H⟩ := parse_txt L w0 w hl hb ht hw
  refine ⟨C, D, fz, hcv, ?_⟩
  have H2 := H.out
  refine Calls.mono H2 ?_
  intro e w' h
  obtain ⟨h, _, hB, _⟩ := h
  rw [hM] at h
  obtain ⟨v, cs, rfl, ho, hr, _⟩ := h
  obtain ⟨n0, k0, r0, e0, _, n1, k1, r1, e1, _, e2⟩ := hr
  subst e2 e1
  rcases ho.2 with ⟨_, h0⟩ | ⟨g, cap, cur, rfl, _⟩
  · cases h0
  · have hadd : ∀ j, (⟨g, 0, none⟩ : Addr).add j = ⟨g, j, none⟩ := fun j => by unfold Addr.add; split <;> simp_all
    refine ⟨g, cap, rfl, ?_, ?_, hB⟩
    · have := ho.cells (g := g) rfl 0 (.int .i64 3) (by rw [e0]; rfl)
      rwa [hadd] at this
    · have := ho.cells (g := g) rfl 2 (.int .i64 n) (by rw [e0]; rfl)
      rwa [hadd] at this
theorem parse_bad (a : Nat) (L : List UInt8) (hM : parseM L = .bad a 25) (w0 w : World) (hl : L.length ≤ 1000) (hb : Below w0.heap.size w0 w) (ht : Lib.Utf8Tabs 0 1 w0) (hw : 2 ≤ w0.heap.size) :
    ∃ (C : Nat) (D : Array Value) (fz : Nat × Nat), (convert 9 22 (.string ⟨L.toArray⟩)).run Tryd.prog w = .ok (.slice (some ⟨w.heap.size, 0, none⟩) L.length C) (w.drew.alloc (.cells D 5 fz)) ∧
      Hid (Calls Tryd.prog 10 #[.slice (some ⟨w.heap.size, 0, none⟩) L.length C] (w.drew.alloc (.cells D 5 fz)) fun e w' => e = .returned (.tuple #[.slice none 0 0, .int .i64 a, .int .i64 (25 : Nat)]) ∧ (∀ k, k < w.heap.size → w'.heap[k]? = w.heap[k]?) ∧ Below w0.heap.size w0 w' ∧ w.heap.size ≤ w'.heap.size) := by
  obtain ⟨C, D, fz, hcv, H⟩ := parse_txt L w0 w hl hb ht hw
  refine ⟨C, D, fz, hcv, ?_⟩
  have H2 := H.out
  refine Calls.mono H2 ?_
  intro e w' h
  obtain ⟨h, h2⟩ := h
  rw [hM] at h
  exact ⟨h.1, h2⟩

set_option maxRecDepth 100000 in
set_option maxHeartbeats 1600000 in
theorem numbers_far (n : Int) (h0 : -9223372036854775808 ≤ n) (h1 : n ≤ 9223372036854775807) (hf : fitsB n = false) (w : World) (ht : Lib.Utf8Tabs 0 1 w) (h2 : 2 ≤ w.heap.size) :
    Calls Tryd.prog 8 #[.int .i64 n] w fun e w' => e = .returned (.bool true) ∧ Below w.heap.size w w' := by
  have HT : Hid (Lib.Utf8Tabs 0 1 w) := ht
  clear ht
  have HM : Hid (parseM (91 :: Lib.itoa n ++ [93]) = .bad 1 25) := by show _ = _; rw [parse_first n h0 h1, hf]; rfl
  have hlen : (91 :: Lib.itoa n ++ [93]).length ≤ 1000 := by have := itoa_short n h0 h1; simp; omega
  have hap : ((⟨#[91]⟩ : ByteArray) ++ ⟨(Lib.itoa n).toArray⟩) ++ ⟨#[93]⟩ = ⟨(91 :: Lib.itoa n ++ [93]).toArray⟩ := by rw [str_cons]; exact str_app (91 :: Lib.itoa n) [93]
  have HI : Hid (-9223372036854775808 ≤ n ∧ n ≤ 9223372036854775807) := ⟨h0, h1⟩
  clear h0 h1
  obtain ⟨L, hL⟩ : ∃ L, 91 :: Lib.itoa n ++ [93] = L := ⟨_, rfl⟩
  rw [hL] at HM hlen hap
  clear hL
  have hsz := itoa_short n HI.out.1 HI.out.2
  go_enter Tryd.func8, Tryd.ntmps8
  go_wp2_with (first | (go_at_call 10; refine HP.out.mono ?_; rintro e w3 ⟨rfl, _, hb3, _⟩) | (go_at_call 14; refine (rfits_any n _).mono ?_; rw [hf]; rintro e w4 ⟨rfl, rfl⟩) | (go_at_call 13; refine (rtext_any n HI.out.1 HI.out.2 w1).mono ?_; rintro e w2 ⟨rfl, hb2'⟩; have hb2 := hb1.trans (hb2'.mono hb1.size); obtain ⟨C, D, fz, hcv, HP⟩ := parse_bad 1 L HM.out w w2 hlen hb2 HT.out h2) | (go_at_call 9; refine (awake_any w HT.out h2).mono ?_; rintro e w1 ⟨rfl, hb1⟩))
  go_ret
  exact ⟨rfl, hb3⟩

theorem odd_cells (l : List UInt8) (w : World) (k : Nat) (hk : k < 4) :
    (w.alloc (.cells #[.string (⟨l.toArray⟩ ++ ⟨#[46, 48]⟩), .string (⟨l.toArray⟩ ++ ⟨#[101, 49]⟩), .string (⟨l.toArray⟩ ++ ⟨#[69, 43, 49]⟩), .string (⟨l.toArray⟩ ++ ⟨#[45]⟩)] 9)).cell? ⟨w.heap.size, k, none⟩ = some (.string ⟨(l ++ sufL k).toArray⟩) := by
  rw [cell_of_row _ w.heap.size k _ _ _ (heap_alloc_new w _)]
  have e0 := str_app l [46, 48]
  have e1 := str_app l [101, 49]
  have e2 := str_app l [69, 43, 49]
  have e3 := str_app l [45]
  rw [e0, e1, e2, e3]
  rcases (show k = 0 ∨ k = 1 ∨ k = 2 ∨ k = 3 by omega) with rfl | rfl | rfl | rfl <;> rfl
set_option maxRecDepth 100000 in
set_option maxHeartbeats 1600000 in
theorem numbers_near (n : Int) (h0 : -9223372036854775808 ≤ n) (h1 : n ≤ 9223372036854775807) (hf : fitsB n = true) (w : World) (ht : Lib.Utf8Tabs 0 1 w) (h2 : 2 ≤ w.heap.size) :
    Calls Tryd.prog 8 #[.int .i64 n] w fun e w' => e = .returned (.bool true) ∧ Below w.heap.size w w' := by
  have HT : Hid (Lib.Utf8Tabs 0 1 w) := ht
  clear ht
  have HM : Hid (parseM (91 :: Lib.itoa n ++ [93]) = .ok [{ kind := 3, num := n }, { kind := 5, kids := [0] }] 0) := by show _ = _; rw [parse_first n h0 h1, hf]; rfl
  have hlen : (91 :: Lib.itoa n ++ [93]).length ≤ 1000 := by have := itoa_short n h0 h1; simp; omega
  have hap : ((⟨#[91]⟩ : ByteArray) ++ ⟨(Lib.itoa n).toArray⟩) ++ ⟨#[93]⟩ = ⟨(91 :: Lib.itoa n ++ [93]).toArray⟩ := by rw [str_cons]; exact str_app (91 :: Lib.itoa n) [93]
  have HI : Hid (-9223372036854775808 ≤ n ∧ n ≤ 9223372036854775807) := ⟨h0, h1⟩
  clear h0 h1
  obtain ⟨L, hL⟩ : ∃ L, 91 :: Lib.itoa n ++ [93] = L := ⟨_, rfl⟩
  rw [hL] at HM hlen hap
  clear hL
  have hsz := itoa_short n HI.out.1 HI.out.2
  go_enter Tryd.func8, Tryd.ntmps8
  go_wp2_with (first | (go_at_call 10; refine HP.out.mono ?_; rintro e w3 ⟨g, cap, rfl, c0, c2, hb3⟩) | (go_at_call 14; refine (rfits_any n _).mono ?_; rw [hf]; rintro e w4 ⟨rfl, rfl⟩) | (go_at_call 13; refine (rtext_any n HI.out.1 HI.out.2 w1).mono ?_; rintro e w2 ⟨rfl, hb2'⟩; have hb2 := hb1.trans (hb2'.mono hb1.size); obtain ⟨C, D, fz, hcv, HP⟩ := parse_good n L HM.out w w2 hlen hb2 HT.out h2) | (go_at_call 9; refine (awake_any w HT.out h2).mono ?_; rintro e w1 ⟨rfl, hb1⟩))
  go_loopw [67] (fun i wr => ∃ k : Nat, k ≤ 4 ∧ i = .int .i64 k ∧ (∀ j, j < 4 → wr.cell? ⟨w4.heap.size, j, none⟩ = some (.string ⟨(Lib.itoa n ++ sufL j).toArray⟩)) ∧ Below w.heap.size w wr ∧ w4.heap.size < wr.heap.size) (fun i _ => 4 - (intOf i).toNat)
  case atStart => exact ⟨0, Nat.zero_le _, rfl, fun j hj => odd_cells _ w4 j hj, hb3.alloc hb3.size _, by simp⟩
  case round =>
    obtain ⟨k, hk, rfl, hcs, hbr, hws⟩ := hrel
    by_cases hlt : k < 4
    · have hc := hcs k hlt
      have HCS : Hid (∀ j, j < 4 → wr.cell? ⟨w4.heap.size, j, none⟩ = some (.string ⟨(Lib.itoa n ++ sufL j).toArray⟩)) := hcs
      clear hcs
      have hsk := suf_len k
      have hap2 : ((⟨#[91, 55, 44]⟩ : ByteArray) ++ ⟨(Lib.itoa n ++ sufL k).toArray⟩) ++ ⟨#[93]⟩ = ⟨([91, 55, 44] ++ (Lib.itoa n ++ sufL k) ++ [93]).toArray⟩ := by
        rw [show (⟨#[91, 55, 44]⟩ : ByteArray) = ⟨([91, 55, 44] : List UInt8).toArray⟩ by rfl, str_app]; exact str_app _ [93]
      have hl2 : ([91, 55, 44] ++ (Lib.itoa n ++ sufL k) ++ [93]).length ≤ 1000 := by simp; omega
      have HM2 : Hid (parseM ([91, 55, 44] ++ (Lib.itoa n ++ sufL k) ++ [93]) = .bad 3 25) := parse_odd n HI.out.1 HI.out.2 k
      have hl3 : (Lib.itoa n ++ sufL k).length ≤ 23 := by simp; omega
      obtain ⟨M, hM⟩ : ∃ M, [91, 55, 44] ++ (Lib.itoa n ++ sufL k) ++ [93] = M := ⟨_, rfl⟩
      rw [hM] at HM2 hl2 hap2
      clear hM
      obtain ⟨O, hO⟩ : ∃ O, Lib.itoa n ++ sufL k = O := ⟨_, rfl⟩
      rw [hO] at hl3 hap2 hc
      clear hO
      obtain ⟨C2, D2, fz2, hcv2, HP2⟩ := parse_bad 3 M HM2.out w wr hl2 hbr HT.out h2
      go_wp2_with (go_at_call 10; refine HP2.out.mono ?_; rintro e w5 ⟨rfl, hkeep, hb5, hs5⟩)
      go_roundw
      case rel =>
        refine ⟨k + 1, by omega, by go_num, fun j hj => ?_, hb5, by omega⟩
        have hj2 := HCS.out j hj
        simp only [World.cell?, hkeep _ hws] at hj2 ⊢
        exact hj2
      case measure => simp [intOf]; omega
    · obtain rfl : k = 4 := by omega
      go_wp2
      go_ret
      exact ⟨rfl, hbr⟩
theorem numbers_any (n : Int) (h0 : -9223372036854775808 ≤ n) (h1 : n ≤ 9223372036854775807) (w : World) (ht : Lib.Utf8Tabs 0 1 w) (h2 : 2 ≤ w.heap.size) :
    Calls Tryd.prog 8 #[.int .i64 n] w fun e w' => e = .returned (.bool true) ∧ Below w.heap.size w w' := by
  cases hf : fitsB n
  · exact numbers_far n h0 h1 hf w ht h2
  · exact numbers_near n h0 h1 hf w ht h2
end Go.Proofs.YtjknlglbejhkkaaDoor
