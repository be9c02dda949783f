/-
  What json.Parse does.
-/
import Derived.Test.YtpffhckimilppaaDoorJRead
namespace Go.Proofs.YtpffhckimilppaaDoor.Js
open Go.RowKit

def parseM (B : List UInt8) : Res (List V) := if 65536 < B.length then .bad 65536 20 else readM B
section
variable {B : List UInt8} {tb toff cap : Nat} {w : World}
set_option maxRecDepth 100000 in
set_option maxHeartbeats 800000 in
theorem parse_json (htxt : ∀ j, j < B.length → w.cell? ⟨tb, toff + j, none⟩ = some (.int .u8 (byteAt B j))) (htb : tb < w.heap.size) (hc : B.length ≤ cap) (hcm : cap ≤ 9223372036854775807) (ht : Lib.Utf8Tabs 0 1 w) (h2 : 2 ≤ w.heap.size) :
    Calls Tryd.prog 18 #[.slice (some ⟨tb, toff, none⟩) B.length cap] w (DoneR w (parseM B)) := by
  by_cases hl : 65536 < B.length
  · have HR : Hid (parseM B = .bad 65536 20) := by show _ = _; simp [parseM, hl]
    have hl' : (65536 : Int) < (B.length : Int) := by omega
    clear hl htxt ht
    go_enter Tryd.func18, Tryd.ntmps18
    go_wp2
    go_ret3
    rw [HR.out]
    exact ⟨rfl, Below.refl _ _⟩
  · have HR : Hid (parseM B = readM B) := by show _ = _; simp [parseM, hl]
    have hl' : ¬ (65536 : Int) < (B.length : Int) := by omega
    have HC : Hid (Calls Tryd.prog 30 #[.slice (some ⟨tb, toff, none⟩) B.length cap] w (DoneR w (readM B))) := read_any (read_env htxt htb (by omega) hc hcm ht h2)
    clear hl htxt ht
    cases hM : readM B with
    | bad a c =>
      rw [hM] at HC HR
      have HC2 : Hid (Calls Tryd.prog 30 #[.slice (some ⟨tb, toff, none⟩) B.length cap] w fun e w' => e = .returned (.tuple #[.slice none 0 0, .int .i64 a, .int .i64 c]) ∧ Below w.heap.size w w') := HC
      clear HC hM
      go_enter Tryd.func18, Tryd.ntmps18
      go_wp2_with (go_at_call 30; refine HC2.out.mono ?_; rintro e w1 ⟨rfl, hb1⟩)
      go_ret3
      rw [HR.out]
      exact ⟨rfl, hb1⟩
    | ok T a =>
      rw [hM] at HC HR
      have HC2 : Hid (Calls Tryd.prog 30 #[.slice (some ⟨tb, toff, none⟩) B.length cap] w fun e w' => ∃ v cs, e = .returned (.tuple #[v, .int .i64 0, .int .i64 0]) ∧ w'.ownsRow 0 42 6 v T.length cs ∧ Reps w' cs T ∧ Below w.heap.size w w') := HC
      clear HC hM
      go_enter Tryd.func18, Tryd.ntmps18
      go_wp2_with (go_at_call 30; refine HC2.out.mono ?_; rintro e w1 ⟨v, cs, rfl, ho, hr, hb1⟩)
      go_ret3
      rw [HR.out]
      exact ⟨v, cs, rfl, ho, hr, hb1⟩
end
end Go.Proofs.YtpffhckimilppaaDoor.Js