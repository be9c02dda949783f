/-
  What the law of escapes (JsonEscapes) does of a rune that is written in two halves.
-/
import Derived.Test.YtedhglphnmheiabDoorEsc
namespace Go.Proofs.YtedhglphnmheiabDoor
open Go.RowKit

def HalfC (small : Bool) (X : Int) (l : List UInt8) : Prop := ∀ (w : World) (dg : Nat), w.cell? ⟨dg, 0, none⟩ = some (.string ⟨(digsL small).toArray⟩) → Calls Tryd.prog 10 #[.int .i64 X, .pointer (some ⟨dg, 0, none⟩)] w fun e w' => e = .returned (.string ⟨l.toArray⟩) ∧ Below w.heap.size w w'
set_option maxRecDepth 100000 in
set_option maxHeartbeats 1600000 in
theorem esc_last (y X Dd BB LL SS : Int) (small : Bool) (w : World) (Hx Ha Hb L E TT : List UInt8) (ht : Lib.Utf8Tabs 0 1 w) (h2 : 2 ≤ w.heap.size) (hm : wrap64 ((IntKind.u64.wrap y).tmod 1114112) = X) (hX1 : 65536 ≤ X) (hX2 : X ≤ 1114111)
    (hD : X - 65536 = Dd) (hB : bits .and .i64 Dd 1023 = BB) (hLL : 55296 + Dd / 1024 = LL) (hSS : 56320 + BB = SS) (_hd1 : 0 ≤ Dd) (_hd2 : Dd ≤ 1048575) (hb1' : 0 ≤ BB) (hb2' : BB ≤ 1023)
    (H0 : Hid (HalfC small X Hx)) (HL : Hid (HalfC small LL Ha)) (HS : Hid (HalfC small SS Hb))
    (HPU : Hid (∀ w' : World, Calls Tryd.prog 12 #[.slice none 0 0, .int .i64 X] w' fun e w'' => ∃ v, e = .returned v ∧ w''.ownsRow 0 5 1 v E.length (Lib.byteCells E) ∧ Below w'.heap.size w' w''))
    (HP : Hid (∀ (w2 : World) (C : Nat) (D : Array Value) (fz : Nat × Nat), Below w.heap.size w w2 → L.length ≤ C → C ≤ 9223372036854775807 → (∀ j, j < L.length → D[j]? = some (.int .u8 (byteAt L j))) → Calls Tryd.prog 11 #[.slice (some ⟨w2.heap.size, 0, none⟩) L.length C] (w2.drew.alloc (.cells D 5 fz)) fun e w' => ∃ g cap, e = .returned (.tuple #[.slice (some ⟨g, 0, none⟩) 1 cap, .int .i64 0, .int .i64 0]) ∧ w'.cell? ⟨g, 3, none⟩ = some (.string ⟨TT.toArray⟩) ∧ Below w.heap.size w w'))
    (hEl : E.length ≤ 4) (hal : Ha.length ≤ 12) (hbl : Hb.length ≤ 12) (_hxl : Hx.length ≤ 12) (hLl : L.length ≤ 16)
    (hap2 : (⟨#[97]⟩ : ByteArray) ++ ⟨E.toArray⟩ ++ ⟨#[98]⟩ = ⟨TT.toArray⟩) (hap : (⟨#[34, 97]⟩ : ByteArray) ++ (⟨Ha.toArray⟩ ++ ⟨Hb.toArray⟩) ++ ⟨#[98, 34]⟩ = ⟨L.toArray⟩) :
    Calls Tryd.prog 3 #[.int .i64 y, .bool small] w fun e w' => e = .returned (.bool true) ∧ Below w.heap.size w w' := by
  have HT : Hid (Lib.Utf8Tabs 0 1 w) := ht
  have hmf : ∀ (fn : Fn) (first cap : Array Value) (w : World), (Instr.makeFunc fn first cap).run Tryd.prog w = .ok (.func fn first cap) w := fun _ _ _ _ => rfl
  clear ht
  cases small
  all_goals
    go_enter Tryd.func3, Tryd.ntmps3
    go_wp2_with (go_at_call 9; refine (awake_any w HT.out h2).mono ?_; rintro e w1 ⟨rfl, hb1⟩)
    refine (H0.out _ w1.heap.size (cell_new1 w1 _)).mono ?_
    rintro e w2 ⟨rfl, hb2⟩
    rw [hm]
    clear hm
    generalize (IntKind.u64.wrap y).tmod 1114112 = q
    have hcd := (hb2.cell (p := ⟨w1.heap.size, 0, none⟩) (by simp)).trans (cell_new1 w1 _)
    have hbw : Below w.heap.size w w2 := (hb1.alloc hb1.size _).trans (hb2.mono (hb1.alloc hb1.size _).size)
    clear hb2 hb1 H0
    go_wp2_with (first | (go_at_call 10; refine (HS.out _ w1.heap.size hcd3).mono ?_; rintro e w4 ⟨rfl, hb4⟩; have hbw4 := hbw3.trans (hb4.mono hbw3.size); obtain ⟨C, D, fz, hcv, hC1, hC2, hDD⟩ := bytes_of L w4 (by omega); have HP2 := HP.out w4 C D fz hbw4 hC1 hC2 hDD; clear hb4 hcd3 hbw3) | (go_at_call 10; refine (HL.out _ w1.heap.size hcd).mono ?_; rintro e w3 ⟨rfl, hb3⟩; have hcd3 := (hb3.cell (p := ⟨w1.heap.size, 0, none⟩) (block_lt_of_cell hcd)).trans hcd; have hbw3 := hbw.trans (hb3.mono hbw.size); clear hb3 hcd hbw) | (go_at_call 11; refine HP2.mono ?_; rintro e w5 ⟨g, cap, rfl, hc5, hb5⟩; clear HP2 hcv hC1 hC2 hDD))
    go_region_held (fun w' => w'.cell? ⟨g, 3, none⟩ = some (.string ⟨TT.toArray⟩)) (go_keep) (first | (go_at_call 12; refine (HPU.out _).mono ?_; rintro e w6 ⟨vp, rfl, hown6, hb6⟩; have hcv6 := conv_own E hown6; have hc6 := (hb6.cell (block_lt_of_cell hc5)).trans hc5; clear hown6))
    all_goals
      go_wp2
      go_ret
      exact ⟨by simp, hb5.drew.trans (hb6.mono hb5.size)⟩
theorem esc_two (y : Int) (x : Nat) (small : Bool) (w : World) (ht : Lib.Utf8Tabs 0 1 w) (h2 : 2 ≤ w.heap.size) (hm : wrap64 ((IntKind.u64.wrap y).tmod 1114112) = (x : Int)) (hx1 : x < 1114112) (hx0 : 65536 ≤ x) :
    Calls Tryd.prog 3 #[.int .i64 y, .bool small] w fun e w' => e = .returned (.bool true) ∧ Below w.heap.size w w' := by
  have hs : ¬ (55296 ≤ x ∧ x < 57344) := by omega
  have hsp := esc_parse small x hx1
  rw [if_neg hs] at hsp
  have hl1 : 55296 + (x - 65536) / 1024 < 1114112 := by omega
  have hs1 : 56320 + (x - 65536) % 1024 < 1114112 := by omega
  refine esc_last y (x : Int) ((x - 65536 : Nat) : Int) (((x - 65536) % 1024 : Nat) : Int) ((55296 + (x - 65536) / 1024 : Nat) : Int) ((56320 + (x - 65536) % 1024 : Nat) : Int) small w (halfL small x) (halfL small (55296 + (x - 65536) / 1024)) (halfL small (56320 + (x - 65536) % 1024)) (escText small x) (Lib.encodeRune (x : Int)) ([97] ++ Lib.encodeRune (x : Int) ++ [98]) ht h2 hm (by omega) (by omega) (by omega) (and1023 _ (by omega)) (by omega) (by omega) (by omega) (by omega) (by omega) (by omega)
    (fun w dg hd => half_any small _ dg hx1 w hd) (fun w dg hd => half_any small _ dg hl1 w hd) (fun w dg hd => half_any small _ dg hs1 w hd) (fun w' => put_any x hx1 hs w') ?_ ?_ (by simp [halfL]) (by simp [halfL]) (by simp [halfL]) (escL_len small x) ?_ ?_
  · intro w2 C D fz hb hC1 hC2 hD
    have H := parse_new (escText small x) w2 C D fz hC1 hC2 hD (tabs_below hb h2 ht) (Nat.le_trans h2 hb.size)
    rw [hsp] at H
    refine Calls.mono H ?_
    intro e w' hq
    obtain ⟨g, cap, rfl, hc, hb3⟩ := parse_one hq
    exact ⟨g, cap, rfl, hc, (hb.drew.alloc hb.size _).trans (hb3.mono (by have := hb.size; simp; omega))⟩
  · rw [← Lib.runeCells_length]; exact (Lib.runeCells_le _).2
  · rw [show (⟨#[97]⟩ : ByteArray) = ⟨([97] : List UInt8).toArray⟩ by rfl, str_app]; exact str_app _ [98]
  · rw [str_app, show (⟨#[34, 97]⟩ : ByteArray) = ⟨([34, 97] : List UInt8).toArray⟩ by rfl, str_app]
    unfold escText escL
    rw [if_pos hx0]
    exact str_app _ [98, 34]
theorem esc_any (y : Int) (small : Bool) (w : World) (ht : Lib.Utf8Tabs 0 1 w) (h2 : 2 ≤ w.heap.size) :
    Calls Tryd.prog 3 #[.int .i64 y, .bool small] w fun e w' => e = .returned (.bool true) ∧ Below w.heap.size w w' := by
  obtain ⟨x, hm, hx⟩ := wrap_runes y
  by_cases hbig : 65536 ≤ x
  · exact esc_two y x small w ht h2 hm hx hbig
  · by_cases hs : 55296 ≤ x ∧ x < 57344
    · exact esc_half y x small w ht h2 hm (by omega) hs
    · exact esc_one y x small w ht h2 hm (by omega) hs
end Go.Proofs.YtedhglphnmheiabDoor
