/-
  What the document's part, join and turned do.
-/
import Derived.Test.YtdnkmjafkpnliaaPrP
import Derived.Test.YtdnkmjafkpnliaaSlA
namespace Go.Proofs.Ytdnkmjafkpnliaa
open Go.RowKit

set_option maxRecDepth 100000 in
set_option maxHeartbeats 6400000 in
theorem part_any {w : World} {va : Option Addr} {m vc a b : Nat} {V : List Vst} (h : SlI w va m vc V) (hm2 : m ≤ 900) (hab : a ≤ b) (hb : b ≤ m) : Calls Try.prog 37 #[.slice va m vc, .int .i64 a, .int .i64 b] w fun e w' => ∃ g c, e = .returned (.slice (some ⟨g, 0, none⟩) (b - a) c) ∧ (VRow w' w.heap.size (.slice (some ⟨g, 0, none⟩) (b - a) c) ((V.drop a).take (b - a)) ∧ b - a ≤ c) ∧ Below w.heap.size w w' := by
  have hl : ((V.drop a).take (b - a)).length = b - a := by rw [List.length_take, List.length_drop, h.len]; omega
  have hc := h.cap
  have k0 : (0 : Int) ≤ (a : Int) := by omega
  have k1 : (a : Int) ≤ (b : Int) := by omega
  have k2 : (b : Int) ≤ (vc : Int) := by omega
  have HL := hide hl
  cases va with
  | none =>
    have hv0 := h.nz rfl
    subst hv0
    have hm0 : m = 0 := by omega
    subst hm0
    have hb0 : b = 0 := by omega
    subst hb0
    have ha0 : a = 0 := by omega
    subst ha0
    have HV : Hid (VsV w (.slice none 0 0) ((V.drop 0).take (0 - 0))) := ⟨_, _, rfl, by simp, fun k hk => by simp at hk⟩
    have H27 := hide (copiedV_any HV.out HL.out (by omega) (fun _ => rfl))
    clear h hl
    go_enter Try.func37, Try.ntmps37
    go_wp2_with (first | (go_at_call 39; refine H27.out.mono ?_; rintro e w1 ⟨g, c, rfl, r1, k9⟩; have R1 := hide r1; have K1 := hide k9; clear r1 k9) | fail)
    go_ret
    exact ⟨g, c, rfl, R1.out, K1.out⟩
  | some ad =>
    have hvs := h.vs
    have hml := h.len
    by_cases hva : vc = a
    · have hvb : vc = b := by omega
      subst hva
      subst hvb
      have HV : Hid (VsV w (.slice (some ad) 0 0) []) := ⟨_, _, rfl, by simp, fun k hk => by simp at hk⟩
      have H27 := hide (copiedV_any HV.out rfl (by omega) (fun e => by cases e))
      clear h hl hvs hml
      rw [Nat.sub_self, List.take_zero]
      go_enter Try.func37, Try.ntmps37
      go_wp2_with (first | (go_at_call 39; refine H27.out.mono ?_; rintro e w1 ⟨g, c, rfl, r1, k9⟩; have R1 := hide r1; have K1 := hide k9; clear r1 k9) | fail)
      go_ret
      exact ⟨g, c, rfl, R1.out, K1.out⟩
    · obtain ⟨bb, off, e2⟩ := h.adr (by omega)
      injection e2 with e2
      subst e2
      have HV : Hid (VsV w (.slice (some ⟨bb, off + a * 2, none⟩) (b - a) (vc - a)) ((V.drop a).take (b - a))) := vs_part hvs hml hab hb
      have H27 := hide (copiedV_any HV.out HL.out (by omega) (fun e => by cases e))
      clear h hl hvs hml
      go_enter Try.func37, Try.ntmps37
      go_wp2_with (first | (go_at_call 39; refine H27.out.mono ?_; rintro e w1 ⟨g, c, rfl, r1, k9⟩; have R1 := hide r1; have K1 := hide k9; clear r1 k9) | fail)
      go_ret
      exact ⟨g, c, rfl, R1.out, K1.out⟩
set_option maxRecDepth 100000 in
set_option maxHeartbeats 6400000 in
theorem join_any {w : World} {a1 a2 a3 : Option Addr} {m1 m2 m3 c1 c2 c3 : Nat} {A B C : List Vst} (h1 : SlI w a1 m1 c1 A) (h2 : SlI w a2 m2 c2 B) (h3 : SlI w a3 m3 c3 C) (hb : m1 + m2 + m3 ≤ 900) : Calls Try.prog 36 #[.slice a1 m1 c1, .slice a2 m2 c2, .slice a3 m3 c3] w fun e w' => ∃ a c, e = .returned (.slice a (m1 + m2 + m3) c) ∧ VRow w' w.heap.size (.slice a (m1 + m2 + m3) c) (A ++ (B ++ C)) ∧ Below w.heap.size w w' := by
  have H27 := hide (copiedV_any h1.vs h1.len (by omega) h1.nz)
  have H2 := hide h2
  have H3 := hide h3
  have HA := hide h1.len
  clear h1 h2 h3
  go_enter Try.func36, Try.ntmps36
  go_wp2_with (first | (go_at_call 39; refine H27.out.mono ?_; rintro e w1 ⟨g, c, rfl, r1, k9⟩; have R1 := hide r1.1; have K1 := hide k9; clear r1 k9) | (at_builtin; refine app_vis (V := C) (.tmp 10) (.tmp 11) rfl rfl rfl rfl R2.out HAB.out (PrV.on H3.out.vs K2.out) H3.out.len H3.out.nz (by omega) K2.out.size ?_; intro a6 c6 w3 s1 s2 _; have R3 := hide s1; have K3 := hide (K2.out.trans s2); clear s1 s2) | (at_builtin; refine app_vis (V := B) (.tmp 8) (.tmp 9) rfl rfl rfl rfl R1.out HA.out (PrV.on H2.out.vs K1.out) H2.out.len H2.out.nz (by omega) K1.out.size ?_; intro a5 c5 w2 s1 s2 _; have R2 := hide s1; have HAB : Hid ((A ++ B).length = m1 + m2) := (by show _ = _; rw [List.length_append, HA.out, H2.out.len]); have K2 := hide (K1.out.trans s2); clear s1 s2) | fail)
  go_ret
  exact ⟨_, _, rfl, by have h9 := R3.out; rw [List.append_assoc] at h9; exact h9, K3.out⟩
end Go.Proofs.Ytdnkmjafkpnliaa
