/-
  What inter's with does.
-/
import Derived.Test.YtdnkmjafkpnliaaTwE
import Derived.Test.YtdnkmjafkpnliaaIns
import Derived.Test.YtdnkmjafkpnliaaPrB
import Derived.Deep.RegionHeld3
namespace Go.Proofs.Ytdnkmjafkpnliaa
open Go.RowKit

/-- A task's visits put into a list. -/
def putL (s : Bool) (it : Int) (V : List Vst) (j k : Nat) : List Vst := if s = true then insM (insM V j (2, it)) k (3, it) else insM V j (1, it)
theorem putL_len {s : Bool} {it : Int} {V : List Vst} {j k : Nat} (hj : j ≤ V.length) (hk : s = true → k ≤ V.length + 1) : (putL s it V j k).length = V.length + visN s := by
  unfold putL
  cases s with
  | false => rw [if_neg (by simp), insM_len hj]; rfl
  | true => rw [if_pos rfl, insM_len (by rw [insM_len hj]; exact hk rfl), insM_len hj]; rfl
theorem at_newE {W : World} {o : Obj} : (W.alloc o).drew.heap[W.heap.size]? = some o := heap_alloc_new W o
theorem ins_low {w W w2 w3 : World} {a : Option Addr} {n c : Nat} {L : List Vst} (K : Below w.heap.size w w2) (h : VRow W w.heap.size (.slice a n c) L) (g : w2.grownBy w3 (Value.ownBlock (.slice a n c))) : Below w.heap.size w w3 := below_own K h g K.size
set_option maxRecDepth 100000 in
set_option maxHeartbeats 12800000 in
theorem with_false {w : World} {va ta : Option Addr} {m vc tc : Nat} {it : Int} {V : List Vst} (h : SlI w va m vc V) (hm2 : m ≤ 800) (hT : SlI w ta 1 tc (visL false it)) (j : Nat) (hj : j ≤ m) (kI : Int) : Calls Try.prog 62 #[.slice va m vc, .slice ta 1 tc, .int .i64 (j : Int), .int .i64 kI] w fun e w' => ∃ a c, e = .returned (.slice a (m + 1) c) ∧ VRow w' w.heap.size (.slice a (m + 1) c) (insM V j (1, it)) ∧ Below w.heap.size w w' := by
  have HM := hide h.len
  have H30 : Hid (∀ W, Below w.heap.size w W → Calls Try.prog 30 #[.slice va m vc] W fun e w' => ∃ a' c', e = .returned (.slice a' m c') ∧ VRow w' W.heap.size (.slice a' m c') V ∧ Below w.heap.size w w' ∧ Below W.heap.size W w') := fun W hf => (clone_any (PrV.on h.vs hf) h.len (by omega) h.nz).mono fun e w' ⟨a', c', e1, e2, e3⟩ => ⟨a', c', e1, e2, below_on hf e3, e3⟩
  obtain ⟨gt, ot, hgt, hgl, v0, v0', -⟩ := vs_cells hT.vs (visL_get false it 0 (by decide))
  subst hgt
  have HC0 : Hid (∀ W, Below w.heap.size w W → W.cell? ⟨gt, ot, none⟩ = some (.int .i64 1) ∧ W.cell? ⟨gt, ot + 1, none⟩ = some (.int .i64 it)) := fun W hf => ⟨((bcell hf).1 _ _ hgl).trans v0, ((bcell hf).1 _ _ hgl).trans v0'⟩
  have KZ : Hid (Below w.heap.size w w) := Below.refl _ _
  obtain ⟨d3, d4⟩ := HC0.out _ KZ.out
  have dl : gt < w.heap.size := hgl
  clear h hT v0 v0'
  go_enter Try.func62, Try.ntmps62
  go_wp2_with fail
  go_region_held3 (fun w' => w'.cell? ⟨gt, ot, none⟩ = some (.int .i64 1) ∧ w'.cell? ⟨gt, ot + 1, none⟩ = some (.int .i64 it)) (go_keep) (first | (go_at_call 56; have hh := KA.out; clear hh; refine (insert_any (w := w1.alloc (.cells #[.int .i64 1, .int .i64 it] 58)) (base := w.heap.size) (vb := w1.heap.size) (v := (1, it)) (VRow.later (own_mono R1.out (by simp)) (Nat.le_refl _) ((Below.refl _ _).alloc (Nat.le_refl _) _)) HM.out (by omega) hj (low_alloc K1.out (.cells #[.int .i64 1, .int .i64 it] 58)).size (heap_alloc_new _ _) (fun g hg => (by have h9 := (World.ownsRow.lt R1.out g hg).2; omega))).mono ?_; rintro e w2 ⟨a2, c2, rfl, r2, k2⟩; have R2 := hide r2; have K2 : Hid (Below w.heap.size w w2) := ins_low (low_alloc K1.out _) (own_mono R1.out (by simp)) k2; obtain ⟨d5, d6⟩ := HC0.out _ K2.out; clear r2 k2) | (go_at_call 56; have hh := KC.out; clear hh; refine (insert_any (w := w1) (base := w.heap.size) (vb := w.heap.size) (v := (1, it)) (own_mono R1.out (by simp)) HM.out (by omega) hj K1.out.size ((KC.out.block _ (by simp)).trans at_newE) (fun g hg => (by have h9 := (World.ownsRow.lt R1.out g hg).1; simp at h9; omega))).mono ?_; rintro e w2 ⟨a2, c2, rfl, r2, k2⟩; have R2 := hide r2; have K2 : Hid (Below w.heap.size w w2) := ins_low K1.out (own_mono R1.out (by simp)) k2; obtain ⟨d5, d6⟩ := HC0.out _ K2.out; clear r2 k2) | (go_at_call 30; (with_reducible refine (H30.out w.drew (low_drew KZ.out)).mono ?_); rintro e w1 ⟨a1, c1, rfl, r1, k1, k1b⟩; have R1 := hide r1; have K1 := hide k1; have KA := hide k1b; obtain ⟨d1, d2⟩ := HC0.out _ k1; clear r1 k1 k1b) | (go_at_call 30; (with_reducible refine (H30.out (w.alloc (.cells #[.int .i64 1, .int .i64 it] 58)).drew (low_drew (low_alloc KZ.out _))).mono ?_); rintro e w1 ⟨a1, c1, rfl, r1, k1, k1b⟩; have R1 := hide r1; have K1 := hide k1; have KC := hide k1b; obtain ⟨d1, d2⟩ := HC0.out _ k1; clear r1 k1 k1b) | fail)
  all_goals
    rename_i hHeld
    clear hHeld
    go_wp2_with fail
    go_ret
    exact ⟨_, _, rfl, R2.out, K2.out⟩
set_option maxRecDepth 100000 in
set_option maxHeartbeats 12800000 in
theorem with_true {w : World} {va ta : Option Addr} {m vc tc : Nat} {it : Int} {V : List Vst} (h : SlI w va m vc V) (hm2 : m ≤ 800) (hT : SlI w ta 2 tc (visL true it)) (j : Nat) (hj : j ≤ m) (k : Nat) (hk : k ≤ m + 1) : Calls Try.prog 62 #[.slice va m vc, .slice ta 2 tc, .int .i64 (j : Int), .int .i64 (k : Int)] w fun e w' => ∃ a c, e = .returned (.slice a (m + 2) c) ∧ VRow w' w.heap.size (.slice a (m + 2) c) (insM (insM V j (2, it)) k (3, it)) ∧ Below w.heap.size w w' := by
  have HM := hide h.len
  have H30 : Hid (∀ W, Below w.heap.size w W → Calls Try.prog 30 #[.slice va m vc] W fun e w' => ∃ a' c', e = .returned (.slice a' m c') ∧ VRow w' W.heap.size (.slice a' m c') V ∧ Below w.heap.size w w' ∧ Below W.heap.size W w') := fun W hf => (clone_any (PrV.on h.vs hf) h.len (by omega) h.nz).mono fun e w' ⟨a', c', e1, e2, e3⟩ => ⟨a', c', e1, e2, below_on hf e3, e3⟩
  obtain ⟨gt, ot, hgt, hgl, v0, v0', -⟩ := vs_cells hT.vs (visL_get true it 0 (by decide))
  subst hgt
  obtain ⟨gv2, ov2, hgv2, -, v1, v1', -⟩ := vs_cells hT.vs (visL_get true it 1 (by decide))
  injection hgv2 with hgv2
  injection hgv2 with e1 e2 _
  subst e1 e2
  have HC0 : Hid (∀ W, Below w.heap.size w W → W.cell? ⟨gt, ot, none⟩ = some (.int .i64 2) ∧ W.cell? ⟨gt, ot + 1, none⟩ = some (.int .i64 it)) := fun W hf => ⟨((bcell hf).1 _ _ hgl).trans v0, ((bcell hf).1 _ _ hgl).trans v0'⟩
  have HC1 : Hid (∀ W, Below w.heap.size w W → W.cell? ⟨gt, ot + 2, none⟩ = some (.int .i64 3) ∧ W.cell? ⟨gt, ot + 2 + 1, none⟩ = some (.int .i64 it)) := fun W hf => ⟨((bcell hf).1 _ _ hgl).trans v1, ((bcell hf).1 _ _ hgl).trans v1'⟩
  have KZ : Hid (Below w.heap.size w w) := Below.refl _ _
  obtain ⟨d3, d4⟩ := HC0.out _ KZ.out
  have dl : gt < w.heap.size := hgl
  clear h hT v0 v0' v1 v1'
  go_enter Try.func62, Try.ntmps62
  go_wp2_with fail
  go_region_held3 (fun w' => w'.cell? ⟨gt, ot, none⟩ = some (.int .i64 2) ∧ w'.cell? ⟨gt, ot + 1, none⟩ = some (.int .i64 it)) (go_keep) (first | (go_at_call 56; have hh := KA.out; clear hh; refine (insert_any (w := w1.alloc (.cells #[.int .i64 2, .int .i64 it] 58)) (base := w.heap.size) (vb := w1.heap.size) (v := (2, it)) (VRow.later (own_mono R1.out (by simp)) (Nat.le_refl _) ((Below.refl _ _).alloc (Nat.le_refl _) _)) HM.out (by omega) hj (low_alloc K1.out (.cells #[.int .i64 2, .int .i64 it] 58)).size (heap_alloc_new _ _) (fun g hg => (by have h9 := (World.ownsRow.lt R1.out g hg).2; omega))).mono ?_; rintro e w2 ⟨a2, c2, rfl, r2, k2⟩; have R2 := hide r2; have K2 : Hid (Below w.heap.size w w2) := ins_low (low_alloc K1.out _) (own_mono R1.out (by simp)) k2; obtain ⟨d5, d6⟩ := HC0.out _ K2.out; clear r2 k2) | (go_at_call 56; have hh := KC.out; clear hh; refine (insert_any (w := w1) (base := w.heap.size) (vb := w.heap.size) (v := (2, it)) (own_mono R1.out (by simp)) HM.out (by omega) hj K1.out.size ((KC.out.block _ (by simp)).trans at_newE) (fun g hg => (by have h9 := (World.ownsRow.lt R1.out g hg).1; simp at h9; omega))).mono ?_; rintro e w2 ⟨a2, c2, rfl, r2, k2⟩; have R2 := hide r2; have K2 : Hid (Below w.heap.size w w2) := ins_low K1.out (own_mono R1.out (by simp)) k2; obtain ⟨d5, d6⟩ := HC0.out _ K2.out; clear r2 k2) | (go_at_call 30; (with_reducible refine (H30.out w.drew (low_drew KZ.out)).mono ?_); rintro e w1 ⟨a1, c1, rfl, r1, k1, k1b⟩; have R1 := hide r1; have K1 := hide k1; have KA := hide k1b; obtain ⟨d1, d2⟩ := HC0.out _ k1; clear r1 k1 k1b) | (go_at_call 30; (with_reducible refine (H30.out (w.alloc (.cells #[.int .i64 2, .int .i64 it] 58)).drew (low_drew (low_alloc KZ.out _))).mono ?_); rintro e w1 ⟨a1, c1, rfl, r1, k1, k1b⟩; have R1 := hide r1; have K1 := hide k1; have KC := hide k1b; obtain ⟨d1, d2⟩ := HC0.out _ k1; clear r1 k1 k1b) | fail)
  all_goals
    rename_i hHeld
    clear hHeld
    obtain ⟨f1, f2⟩ := HC1.out _ K2.out
    have HM2 : Hid ((insM V j (2, it)).length = m + 1) := (by show _ = _; rw [insM_len (by rw [HM.out]; exact hj), HM.out])
    go_wp2_with (first | (go_at_call 56; refine (insert_any (w := w2.alloc (.cells #[.int .i64 3, .int .i64 it] 58)) (base := w.heap.size) (vb := w2.heap.size) (v := (3, it)) (VRow.later R2.out (Nat.le_refl _) ((Below.refl _ _).alloc (Nat.le_refl _) _)) HM2.out (by omega) hk (low_alloc K2.out (.cells #[.int .i64 3, .int .i64 it] 58)).size (heap_alloc_new _ _) (fun g hg => (by have h9 := (World.ownsRow.lt R2.out g hg).2; omega))).mono ?_; rintro e w3 ⟨a3, c3, rfl, r3, k3⟩; have R3 := hide r3; have K3 : Hid (Below w.heap.size w w3) := ins_low (low_alloc K2.out _) R2.out k3; clear r3 k3) | fail)
    go_ret
    exact ⟨_, _, rfl, R3.out, K3.out⟩
theorem with_any {w : World} {va ta : Option Addr} {m vc tc : Nat} {s : Bool} {it : Int} {V : List Vst} (h : SlI w va m vc V) (hm2 : m ≤ 800) (hT : SlI w ta (visN s) tc (visL s it)) (j k : Int) (hf : fitB s m j k = true) : Calls Try.prog 62 #[.slice va m vc, .slice ta (visN s) tc, .int .i64 j, .int .i64 k] w fun e w' => ∃ a c, e = .returned (.slice a (m + visN s) c) ∧ VRow w' w.heap.size (.slice a (m + visN s) c) (putL s it V j.toNat k.toNat) ∧ Below w.heap.size w w' := by
  unfold fitB at hf
  rw [Bool.and_eq_true] at hf
  have q1 := wit_ok hf.1
  obtain ⟨jj, rfl⟩ : ∃ a : Nat, j = a := ⟨j.toNat, by omega⟩
  cases s with
  | false => exact with_false h hm2 hT jj (by omega) k
  | true =>
    have q2 := hf.2
    simp at q2
    obtain ⟨kk, rfl⟩ : ∃ a : Nat, k = a := ⟨k.toNat, by omega⟩
    exact with_true h hm2 hT jj (by omega) kk (by omega)
end Go.Proofs.Ytdnkmjafkpnliaa
