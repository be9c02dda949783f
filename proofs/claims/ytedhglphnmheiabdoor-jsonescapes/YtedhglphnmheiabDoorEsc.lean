/-
  What the law of escapes (JsonEscapes) does.
-/
import Derived.Test.YtedhglphnmheiabDoorEscA
import Derived.Test.YtedhglphnmheiabDoorPut
import Derived.Test.YtedhglphnmheiabDoorBytes
import Derived.Deep.RegionHeld
namespace Go.Proofs.YtedhglphnmheiabDoor
open Go.RowKit

theorem wrap_runes (x : Int) : ∃ m : Nat, wrap64 ((IntKind.u64.wrap x).tmod 1114112) = (m : Int) ∧ m < 1114112 := by
  have h0 : 0 ≤ IntKind.u64.wrap x := by
    unfold IntKind.wrap; simp [IntKind.signed, IntKind.bits]; omega
  have h1 := Int.tmod_nonneg 1114112 h0
  have h2 := Int.tmod_lt_of_pos (IntKind.u64.wrap x) (show (0 : Int) < 1114112 by decide)
  refine ⟨((IntKind.u64.wrap x).tmod 1114112).toNat, ?_, by omega⟩
  simp only [wrap64]
  omega
theorem mask1023 (x : Nat) : x &&& 1023 = x % 1024 := Nat.and_two_pow_sub_one_eq_mod x 10
theorem and1023 (x : Nat) (h : x < 9223372036854775808) : bits .and .i64 (x : Int) 1023 = ((x % 1024 : Nat) : Int) := by
  show IntKind.i64.wrap ((BitVec.ofInt 64 (x : Int) &&& BitVec.ofInt 64 ((1023 : Nat) : Int)).toNat : Int) = _
  rw [BitVec.toNat_and, ofInt64 x (by omega), ofInt64 1023 (by omega), mask1023]
  exact wrap_small _ (by omega)

theorem half_is (small : Bool) (n dg : Nat) (hn : n < 1114112) (w : World) (hd : w.cell? ⟨dg, 0, none⟩ = some (.string ⟨(digsL small).toArray⟩)) {l : List UInt8} (hl : Hid (halfL small n = l)) :
    Calls Tryd.prog 10 #[.int .i64 n, .pointer (some ⟨dg, 0, none⟩)] w fun e w' => e = .returned (.string ⟨l.toArray⟩) ∧ Below w.heap.size w w' := by
  rw [← hl.out]; exact half_any small n dg hn w hd
theorem cell_new1 (w : World) (v : Value) : (w.alloc (.cells #[v] 9)).cell? ⟨w.heap.size, 0, none⟩ = some v := by
  rw [cell_of_row _ w.heap.size 0 _ _ _ (heap_alloc_new w _)]; rfl
/-- A tree of one string, as it was read. -/
theorem parse_one {w w' : World} {s : List UInt8} {e : Ending} (h : DoneR w (.ok [{ kind := 4, text := s }] 0) e w') : ∃ g cap, e = .returned (.tuple #[.slice (some ⟨g, 0, none⟩) 1 cap, .int .i64 0, .int .i64 0]) ∧ w'.cell? ⟨g, 3, none⟩ = some (.string ⟨s.toArray⟩) ∧ Below w.heap.size w w' := by
  obtain ⟨v, cs, rfl, ho, hr, hb⟩ := h
  obtain ⟨n0, k0, r0, e0, _, e3⟩ := hr
  subst e3
  rcases ho.2 with ⟨_, h0⟩ | ⟨g, cap, cur, rfl, _⟩
  · cases h0
  · refine ⟨g, cap, rfl, ?_, hb⟩
    have := ho.cells (g := g) rfl 3 (.string ⟨s.toArray⟩) (by rw [e0]; rfl)
    have hadd : (⟨g, 0, none⟩ : Addr).add 3 = ⟨g, 3, none⟩ := by unfold Addr.add; split <;> simp_all
    rwa [hadd] at this
theorem escL_len (small : Bool) (x : Nat) : (escText small x).length ≤ 16 := by unfold escText escL; split <;> simp [halfL]
theorem esc_small (small : Bool) (x : Nat) (h : ¬ 65536 ≤ x) : escText small x = [34, 97] ++ halfL small x ++ [98, 34] := by unfold escText escL; rw [if_neg h]
theorem esc_parse (small : Bool) (x : Nat) (hx : x < 1114112) : parseM (escText small x) = if 55296 ≤ x ∧ x < 57344 then .bad 2 24 else .ok [{ kind := 4, text := [97] ++ Lib.encodeRune (x : Int) ++ [98] }] 0 := by
  unfold parseM
  rw [if_neg (by have := escL_len small x; omega)]
  exact esc_read small x hx
set_option maxRecDepth 100000 in
set_option maxHeartbeats 3200000 in
theorem esc_half (y : Int) (x : Nat) (small : Bool) (w : World) (ht : Lib.Utf8Tabs 0 1 w) (h2 : 2 ≤ w.heap.size) (hm : wrap64 ((IntKind.u64.wrap y).tmod 1114112) = (x : Int)) (hx0 : x < 65536) (hs : 55296 ≤ x ∧ x < 57344) :
    Calls Tryd.prog 3 #[.int .i64 y, .bool small] w fun e w' => e = .returned (.bool true) ∧ Below w.heap.size w w' := by
  have HT : Hid (Lib.Utf8Tabs 0 1 w) := ht
  have hx : Hid (x < 1114112) := by show _ < _; omega
  have hmf : ∀ (fn : Fn) (first cap : Array Value) (w : World), (Instr.makeFunc fn first cap).run Tryd.prog w = .ok (.func fn first cap) w := fun _ _ _ _ => rfl
  have hbig' : ((65536 : Int) ≤ (x : Int)) = False := by simp; omega
  have hs1 : ((55296 : Int) ≤ (x : Int)) = True := by simp; omega
  have hs2 : ((x : Int) < 57344) = True := by simp; omega
  have HPM : Hid (parseM (escText small x) = .bad 2 24) := by show _ = _; rw [esc_parse small x (by omega), if_pos hs]
  obtain ⟨L, hL⟩ : ∃ L, Hid (escText small x = L) := ⟨_, rfl⟩
  obtain ⟨Hf, hH⟩ : ∃ Hf, Hid (halfL small x = Hf) := ⟨_, rfl⟩
  have hap : (⟨#[34, 97]⟩ : ByteArray) ++ ⟨Hf.toArray⟩ ++ ⟨#[98, 34]⟩ = ⟨L.toArray⟩ := by
    rw [← hL.out, ← hH.out, esc_small small x (by omega), show (⟨#[34, 97]⟩ : ByteArray) = ⟨([34, 97] : List UInt8).toArray⟩ by rfl, str_app]; exact str_app _ [98, 34]
  have hHl : Hf.length ≤ 12 := by rw [← hH.out]; simp [halfL]
  have hLl : L.length ≤ 16 := by rw [← hL.out]; exact escL_len small x
  clear ht hs hx0
  have HP : Hid (∀ (w2 : World) (C : Nat) (D : Array Value) (fz : Nat × Nat), Below w.heap.size w w2 → L.length ≤ C → C ≤ 9223372036854775807 → (∀ j, j < L.length → D[j]? = some (.int .u8 (byteAt L j))) → Calls Tryd.prog 11 #[.slice (some ⟨w2.heap.size, 0, none⟩) L.length C] (w2.drew.alloc (.cells D 5 fz)) fun e w' => e = .returned (.tuple #[.slice none 0 0, .int .i64 2, .int .i64 24]) ∧ Below w.heap.size w w') := by
    intro w2 C D fz hb hC1 hC2 hD
    have H := parse_new L w2 C D fz hC1 hC2 hD (tabs_below hb h2 HT.out) (Nat.le_trans h2 hb.size)
    rw [← hL.out, HPM.out] at H
    rw [← hL.out]
    refine Calls.mono H ?_
    rintro e w' ⟨rfl, hb3⟩
    exact ⟨rfl, (hb.drew.alloc hb.size _).trans (hb3.mono (by have := hb.size; simp; omega))⟩
  cases small
  all_goals
    go_enter Tryd.func3, Tryd.ntmps3
    go_wp2_with (first | (go_at_call 9; refine (awake_any w HT.out h2).mono ?_; rintro e w1 ⟨rfl, hb1⟩) | (go_at_call 10; refine (half_is _ x w1.heap.size hx.out _ (cell_new1 w1 _) hH).mono ?_; rintro e w2 ⟨rfl, hb2⟩; have hbw : Below w.heap.size w w2 := (hb1.alloc hb1.size _).trans (hb2.mono (hb1.alloc hb1.size _).size); obtain ⟨C, D, fz, hcv, hC1, hC2, hD⟩ := bytes_of L w2 (by omega); have HP2 := HP.out w2 C D fz hbw hC1 hC2 hD) | (go_at_call 11; refine HP2.mono ?_; rintro e w3 ⟨rfl, hb3⟩))
    go_ret
    exact ⟨by simp, hb3⟩
set_option maxRecDepth 100000 in
set_option maxHeartbeats 3200000 in
theorem esc_one (y : Int) (x : Nat) (small : Bool) (w : World) (ht : Lib.Utf8Tabs 0 1 w) (h2 : 2 ≤ w.heap.size) (hm : wrap64 ((IntKind.u64.wrap y).tmod 1114112) = (x : Int)) (hx0 : x < 65536) (hs : ¬ (55296 ≤ x ∧ x < 57344)) :
    Calls Tryd.prog 3 #[.int .i64 y, .bool small] w fun e w' => e = .returned (.bool true) ∧ Below w.heap.size w w' := by
  have HT : Hid (Lib.Utf8Tabs 0 1 w) := ht
  have hx : Hid (x < 1114112) := by show _ < _; omega
  have hmf : ∀ (fn : Fn) (first cap : Array Value) (w : World), (Instr.makeFunc fn first cap).run Tryd.prog w = .ok (.func fn first cap) w := fun _ _ _ _ => rfl
  have hbig' : ((65536 : Int) ≤ (x : Int)) = False := by simp; omega
  obtain ⟨E, hE⟩ : ∃ E, Hid (Lib.encodeRune (x : Int) = E) := ⟨_, rfl⟩
  obtain ⟨TT, hTT⟩ : ∃ TT : List UInt8, Hid (([97] : List UInt8) ++ Lib.encodeRune (x : Int) ++ ([98] : List UInt8) = TT) := ⟨_, rfl⟩
  have hEl : E.length ≤ 4 := by rw [← hE.out, ← Lib.runeCells_length]; exact (Lib.runeCells_le _).2
  have hap2 : (⟨#[97]⟩ : ByteArray) ++ ⟨E.toArray⟩ ++ ⟨#[98]⟩ = ⟨TT.toArray⟩ := by
    rw [← hTT.out, ← hE.out, show (⟨#[97]⟩ : ByteArray) = ⟨([97] : List UInt8).toArray⟩ by rfl, str_app]; exact str_app _ [98]
  have HPU : Hid (∀ w' : World, Calls Tryd.prog 12 #[.slice none 0 0, .int .i64 x] w' fun e w'' => ∃ v, e = .returned v ∧ w''.ownsRow 0 5 1 v E.length (Lib.byteCells E) ∧ Below w'.heap.size w' w'') := fun w' => by rw [← hE.out]; exact put_any x (by omega) hs w'
  have HPM : Hid (parseM (escText small x) = .ok [{ kind := 4, text := TT }] 0) := by show _ = _; rw [esc_parse small x (by omega), if_neg hs, hTT.out]
  obtain ⟨L, hL⟩ : ∃ L, Hid (escText small x = L) := ⟨_, rfl⟩
  obtain ⟨Hf, hH⟩ : ∃ Hf, Hid (halfL small x = Hf) := ⟨_, rfl⟩
  have hap : (⟨#[34, 97]⟩ : ByteArray) ++ ⟨Hf.toArray⟩ ++ ⟨#[98, 34]⟩ = ⟨L.toArray⟩ := by
    rw [← hL.out, ← hH.out, esc_small small x (by omega), show (⟨#[34, 97]⟩ : ByteArray) = ⟨([34, 97] : List UInt8).toArray⟩ by rfl, str_app]; exact str_app _ [98, 34]
  have hHl : Hf.length ≤ 12 := by rw [← hH.out]; simp [halfL]
  have hLl : L.length ≤ 16 := by rw [← hL.out]; exact escL_len small x
  have hs3 : x < 55296 ∨ 57344 ≤ x := by omega
  clear ht hs hx0
  have HP : Hid (∀ (w2 : World) (C : Nat) (D : Array Value) (fz : Nat × Nat), Below w.heap.size w w2 → L.length ≤ C → C ≤ 9223372036854775807 → (∀ j, j < L.length → D[j]? = some (.int .u8 (byteAt L j))) → Calls Tryd.prog 11 #[.slice (some ⟨w2.heap.size, 0, none⟩) L.length C] (w2.drew.alloc (.cells D 5 fz)) fun e w' => ∃ g cap, e = .returned (.tuple #[.slice (some ⟨g, 0, none⟩) 1 cap, .int .i64 0, .int .i64 0]) ∧ w'.cell? ⟨g, 3, none⟩ = some (.string ⟨TT.toArray⟩) ∧ Below w.heap.size w w') := by
    intro w2 C D fz hb hC1 hC2 hD
    have H := parse_new L w2 C D fz hC1 hC2 hD (tabs_below hb h2 HT.out) (Nat.le_trans h2 hb.size)
    rw [← hL.out, HPM.out] at H
    rw [← hL.out]
    refine Calls.mono H ?_
    intro e w' hq
    obtain ⟨g, cap, rfl, hc, hb3⟩ := parse_one hq
    exact ⟨g, cap, rfl, hc, (hb.drew.alloc hb.size _).trans (hb3.mono (by have := hb.size; simp; omega))⟩
  rcases hs3 with hs3 | hs3
  · have hs1 : ((55296 : Int) ≤ (x : Int)) = False := by simp; omega
    clear hs3
    cases small
    all_goals
      go_enter Tryd.func3, Tryd.ntmps3
      go_wp2_with (first | (go_at_call 9; refine (awake_any w HT.out h2).mono ?_; rintro e w1 ⟨rfl, hb1⟩) | (go_at_call 10; refine (half_is _ x w1.heap.size hx.out _ (cell_new1 w1 _) hH).mono ?_; rintro e w2 ⟨rfl, hb2⟩; have hbw : Below w.heap.size w w2 := (hb1.alloc hb1.size _).trans (hb2.mono (hb1.alloc hb1.size _).size); obtain ⟨C, D, fz, hcv, hC1, hC2, hD⟩ := bytes_of L w2 (by omega); have HP2 := HP.out w2 C D fz hbw hC1 hC2 hD) | (go_at_call 11; refine HP2.mono ?_; rintro e w3 ⟨g, cap, rfl, hc3, hb3⟩))
      clear hcv hC1 hC2 hD HP2 hmf hb2 hbw hb1 hm
      generalize (IntKind.u64.wrap y).tmod 1114112 = q
      go_region_held (fun w' => w'.cell? ⟨g, 3, none⟩ = some (.string ⟨TT.toArray⟩)) (go_keep) (first | (go_at_call 12; refine (HPU.out _).mono ?_; rintro e w4 ⟨vp, rfl, hown4, hb4⟩; have hcv4 := conv_own E hown4; have hc4 := (hb4.cell (block_lt_of_cell hc3)).trans hc3; clear hown4))
      all_goals
        go_wp2
        go_ret
        exact ⟨by simp, hb3.drew.trans (hb4.mono hb3.size)⟩
  · have hs1 : ((55296 : Int) ≤ (x : Int)) = True := by simp; omega
    have hs2 : ((x : Int) < 57344) = False := by simp; omega
    clear hs3
    cases small
    all_goals
      go_enter Tryd.func3, Tryd.ntmps3
      go_wp2_with (first | (go_at_call 9; refine (awake_any w HT.out h2).mono ?_; rintro e w1 ⟨rfl, hb1⟩) | (go_at_call 10; refine (half_is _ x w1.heap.size hx.out _ (cell_new1 w1 _) hH).mono ?_; rintro e w2 ⟨rfl, hb2⟩; have hbw : Below w.heap.size w w2 := (hb1.alloc hb1.size _).trans (hb2.mono (hb1.alloc hb1.size _).size); obtain ⟨C, D, fz, hcv, hC1, hC2, hD⟩ := bytes_of L w2 (by omega); have HP2 := HP.out w2 C D fz hbw hC1 hC2 hD) | (go_at_call 11; refine HP2.mono ?_; rintro e w3 ⟨g, cap, rfl, hc3, hb3⟩))
      clear hcv hC1 hC2 hD HP2 hmf hb2 hbw hb1 hm
      generalize (IntKind.u64.wrap y).tmod 1114112 = q
      go_region_held (fun w' => w'.cell? ⟨g, 3, none⟩ = some (.string ⟨TT.toArray⟩)) (go_keep) (first | (go_at_call 12; refine (HPU.out _).mono ?_; rintro e w4 ⟨vp, rfl, hown4, hb4⟩; have hcv4 := conv_own E hown4; have hc4 := (hb4.cell (block_lt_of_cell hc3)).trans hc3; clear hown4))
      all_goals
        go_wp2
        go_ret
        exact ⟨by simp, hb3.drew.trans (hb4.mono hb3.size)⟩
end Go.Proofs.YtedhglphnmheiabDoor
