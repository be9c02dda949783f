/-
  Several texts in one.
-/
import Derived.Shelf.Sort.Plain
import Derived.Shelf.Slices.In.SortNone
import Derived.Lib.OwnBridge
import Derived.Test.YtojkdmkeankcgaaGreatInts
import Derived.Test.YtojkdmkeankcgaaGreatZLm
import Derived.Deep.LoopGhost
import Derived.Deep.AppendLies
import Derived.Test.YtojkdmkeankcgaaGreatZLf
/-  The library's contract of slices.Sort at whole numbers, laid at this program: a row of the call's own behind it holds the same numbers, rising. -/
namespace Go.Proofs.YtojkdmkeankcgaaGreat
open Go.Shelf Go.Sort Go.RowKit
def sortIRen : Go.Shelf.Ren := ⟨fun | 125 => 94 | 128 => 114 | 129 => 115 | 189 => 91 | 215 => 116 | 216 => 123 | 257 => 105 | 294 => 117 | 295 => 118 | 296 => 119 | 297 => 120 | 298 => 121 | 299 => 122 | 300 => 124 | 301 => 125 | 328 => 131 | 329 => 127 | 330 => 128 | 331 => 132 | 332 => 133 | 343 => 135 | n => n, fun | 0 => 0 | 3 => 3 | 4 => 4 | 5 => 5 | 9 => 9 | 28 => 27 | 46 => 120 | 51 => 148 | 53 => 151 | 131 => 116 | 182 => 168 | 183 => 169 | 218 => 182 | 222 => 47 | 228 => 189 | 229 => 77 | n => n, fun n => n⟩
theorem sortILays : Go.Proofs.Lays.n189 Tryz.prog sortIRen := {
  mixed := by kernel_rfl
  f125 := Tryz.func94.trans (congrArg some (by kernel_rfl))
  f128 := Tryz.func114.trans (congrArg some (by kernel_rfl))
  f129 := Tryz.func115.trans (congrArg some (by kernel_rfl))
  f189 := Tryz.func91.trans (congrArg some (by kernel_rfl))
  f215 := Tryz.func116.trans (congrArg some (by kernel_rfl))
  f216 := Tryz.func123.trans (congrArg some (by kernel_rfl))
  f257 := Tryz.func105.trans (congrArg some (by kernel_rfl))
  f294 := Tryz.func117.trans (congrArg some (by kernel_rfl))
  f295 := Tryz.func118.trans (congrArg some (by kernel_rfl))
  f296 := Tryz.func119.trans (congrArg some (by kernel_rfl))
  f297 := Tryz.func120.trans (congrArg some (by kernel_rfl))
  f298 := Tryz.func121.trans (congrArg some (by kernel_rfl))
  f299 := Tryz.func122.trans (congrArg some (by kernel_rfl))
  f300 := Tryz.func124.trans (congrArg some (by kernel_rfl))
  f301 := Tryz.func125.trans (congrArg some (by kernel_rfl))
  f328 := Tryz.func131.trans (congrArg some (by kernel_rfl))
  f329 := Tryz.func127.trans (congrArg some (by kernel_rfl))
  f330 := Tryz.func128.trans (congrArg some (by kernel_rfl))
  f331 := Tryz.func132.trans (congrArg some (by kernel_rfl))
  f332 := Tryz.func133.trans (congrArg some (by kernel_rfl))
  f343 := Tryz.func135.trans (congrArg some (by kernel_rfl))
  t0 := Tryz.underlying0
  a0 := Tryz.isAgg0
  z0 := Tryz.sizeOf0
  v0 := Tryz.zeroValue0
  t3 := Tryz.underlying3
  a3 := Tryz.isAgg3
  z3 := Tryz.sizeOf3
  v3 := Tryz.zeroValue3
  t4 := Tryz.underlying4
  a4 := Tryz.isAgg4
  z4 := Tryz.sizeOf4
  v4 := Tryz.zeroValue4
  t5 := Tryz.underlying5
  a5 := Tryz.isAgg5
  z5 := Tryz.sizeOf5
  v5 := Tryz.zeroValue5
  t9 := Tryz.underlying9
  a9 := Tryz.isAgg9
  z9 := Tryz.sizeOf9
  v9 := Tryz.zeroValue9
  t28 := Tryz.underlying27
  a28 := Tryz.isAgg27
  z28 := Tryz.sizeOf27
  v28 := Tryz.zeroValue27
  t46 := Tryz.underlying120
  a46 := Tryz.isAgg120
  z46 := Tryz.sizeOf120
  v46 := Tryz.zeroValue120
  t51 := Tryz.underlying148
  a51 := Tryz.isAgg148
  z51 := Tryz.sizeOf148
  v51 := Tryz.zeroValue148
  t53 := Tryz.underlying151
  a53 := Tryz.isAgg151
  z53 := Tryz.sizeOf151
  v53 := Tryz.zeroValue151
  t131 := Tryz.underlying116
  a131 := Tryz.isAgg116
  z131 := Tryz.sizeOf116
  v131 := Tryz.zeroValue116
  t182 := Tryz.underlying168
  a182 := Tryz.isAgg168
  z182 := Tryz.sizeOf168
  v182 := Tryz.zeroValue168
  t183 := Tryz.underlying169
  a183 := Tryz.isAgg169
  z183 := Tryz.sizeOf169
  v183 := Tryz.zeroValue169
  t218 := Tryz.underlying182
  a218 := Tryz.isAgg182
  z218 := Tryz.sizeOf182
  v218 := Tryz.zeroValue182
  t222 := Tryz.underlying47
  a222 := Tryz.isAgg47
  z222 := Tryz.sizeOf47
  v222 := Tryz.zeroValue47
  t228 := Tryz.underlying189
  a228 := Tryz.isAgg189
  z228 := Tryz.sizeOf189
  v228 := Tryz.zeroValue189
  t229 := Tryz.underlying77
  a229 := Tryz.isAgg77
  z229 := Tryz.sizeOf77
  v229 := Tryz.zeroValue77 }
theorem sortI_some (blk off cap : Nat) (zs : List Int) (w : World) (hH : Holds (Value.int .i64) w blk off zs.toArray) (hblk : blk < w.heap.size) (hsz : zs.length < 4611686018427387904) :
    Calls Tryz.prog 91 #[.slice (some ⟨blk, off, none⟩) zs.length cap] w fun e w' => e = .returned (.tuple #[]) ∧ ∃ n os, w' = grow (putRow (Value.int .i64) (Sort.ahead w n) blk off (zs.mergeSort fun x y => decide (x ≤ y)).toArray) os :=
  Any.slices_Sort_int sortILays blk off cap zs w hH hblk hsz
theorem sortI_none (p : Option Addr) (cap : Nat) (w : World) : Calls Tryz.prog 91 #[.slice p 0 cap] w fun e w' => e = .returned (.tuple #[]) ∧ w' = w :=
  Any.slices_Sort_int_none sortILays p cap w
theorem sortI_any {w : World} {B : Nat} {va : Option Addr} {m vc : Nat} {zs : List Int} (h : IRow w B (.slice va m vc) zs) (hl : zs.length ≤ 32) :
    Calls Tryz.prog 91 #[.slice va zs.length vc] w fun e w' => e = .returned (.tuple #[]) ∧ IRow w' B (.slice va m vc) (zs.mergeSort fun x y => decide (x ≤ y)) ∧ Below B w w' := by
  rcases zs with _ | ⟨z, r⟩
  · refine (sortI_none va vc w).mono ?_
    rintro e w' ⟨rfl, rfl⟩
    exact ⟨rfl, by simpa using h, Below.refl _ _⟩
  · obtain ⟨ga, cap, hv, _⟩ := h.form (by simp)
    have hv' := hv
    injection hv' with e1 e2 e3
    subst e1 e2 e3
    have h' : w.ownsRow B 3 1 (.slice (some ⟨ga, 0, none⟩) (z :: r).length vc) (z :: r).length ((z :: r).map (Value.int .i64 ·)) := h
    obtain ⟨g2, c2, hv2, hb1, hb2, _, _, _, hH⟩ := Lib.holds_of_ownsRow (enc := Value.int .i64) h' (by intro e; cases e)
    cases hv2
    refine (sortI_some ga 0 vc (z :: r) w hH hb2 (by omega)).mono ?_
    rintro e w' ⟨rfl, q, os, rfl⟩
    have hlen : ((z :: r).mergeSort fun x y => decide (x ≤ y)).length = (z :: r).length := List.length_mergeSort _
    have h1 := Lib.ownsRow_putRow (enc := Value.int .i64) (q := q) (k := (z :: r).length) (ys := (z :: r).mergeSort fun x y => decide (x ≤ y)) h' hlen (Nat.le_refl _)
    rw [List.take_of_length_le (by rw [hlen]; exact Nat.le_refl _)] at h1
    have hB := Lib.below_putRow (enc := Value.int .i64) (q := q) (d := ((z :: r).mergeSort fun x y => decide (x ≤ y)).toArray) (Below.refl B w) hb1
    refine ⟨rfl, own_of_block ?_ (w := putRow (Value.int .i64) (Sort.ahead w q) ga 0 ((z :: r).mergeSort fun x y => decide (x ≤ y)).toArray) (fun k hk => heap_grow_old _ _ (h1.lt k hk).2), ⟨hB.os, hB.tape, hB.output, ?_, fun k hk => ?_⟩⟩
    · unfold intsV; rw [hlen]; exact h1
    · have := hB.size; rw [size_grow]; omega
    · by_cases hk2 : k < w.heap.size
      · rw [heap_grow_old _ _ (Nat.lt_of_lt_of_le hk2 hB.size)]; exact hB.block k hk
      · omega
end Go.Proofs.YtojkdmkeankcgaaGreat
/-  What rising does: the keys of a map, sorted. -/
namespace Go.Proofs.YtojkdmkeankcgaaGreat
open Go.RowKit Go.Sort

/-- Between two rounds: L has been handed out. -/
def RisIn (n : Nat) (w : World) (mb B : Nat) (F : Nat → Option Value) (L : List Nat) (k : Nat) (v : Value) (wr : World) : Prop :=
  ∃ todo, RangeAt n wr mb B F todo k ∧ IRow wr B v (nI L) ∧ Below B w wr ∧ (∀ q, q ∈ L ↔ q < n ∧ (F q).isSome = true ∧ todo q = false) ∧ L.Nodup
section
variable {n mb B k : Nat} {w wr : World} {F : Nat → Option Value} {L : List Nat} {v : Value} {todo : Nat → Bool}
theorem ris_len (h4 : ∀ q, q ∈ L ↔ q < n ∧ (F q).isSome = true ∧ todo q = false) (h5 : L.Nodup) : L.length ≤ n := by
  have := nodup_len n (nI L) (by unfold nI; exact List.Pairwise.map _ (fun a b h e => h (Int.ofNat.inj e)) h5) (fun x hx => by
    obtain ⟨q, hq, rfl⟩ := List.mem_map.1 hx
    have := (h4 q).1 hq
    simp only [Int.ofNat_eq_natCast]
    omega)
  rw [nI_len] at this
  exact this
theorem ris_next {q : Nat} (h4 : ∀ q, q ∈ L ↔ q < n ∧ (F q).isSome = true ∧ todo q = false) (hq : q < n) (ht : todo q = true) (hF : (F q).isSome = true) : ∀ p, p ∈ L ++ [q] ↔ p < n ∧ (F p).isSome = true ∧ (todo p && !(p == q)) = false := fun p => by
  rw [List.mem_append, h4 p, List.mem_singleton]
  by_cases e : p = q
  · subst e; simp [hq, hF]
  · simp [e]
theorem ris_nodup {q : Nat} (h4 : ∀ q, q ∈ L ↔ q < n ∧ (F q).isSome = true ∧ todo q = false) (h5 : L.Nodup) (ht : todo q = true) : (L ++ [q]).Nodup := by
  rw [List.nodup_append]
  exact ⟨h5, by simp, fun a ha b hb e => by simp at hb; subst hb; subst e; have := ((h4 a).1 ha).2.2; rw [ht] at this; cases this⟩
theorem ris_more {q : Nat} (h4 : ∀ q, q ∈ L ↔ q < n ∧ (F q).isSome = true ∧ todo q = false) (h5 : L.Nodup) (hq : q < n) (ht : todo q = true) (hF : (F q).isSome = true) : L.length + 1 ≤ n := by
  have := ris_len (ris_next h4 hq ht hF) (ris_nodup h4 h5 ht)
  simpa using this
theorem iter_ne_row {r : Nat} {cnt : Nat} {xs : List Int} (h : RangeAt n wr mb r F todo cnt) (hr : IRow wr B v xs) {k : Nat} (hk : v.ownBlock = some k) (e : k = r) : False := by
  obtain ⟨c2, hc2⟩ := own_tag hr hk
  obtain ⟨_, _, _, h2⟩ := h.isIter
  subst e
  rw [h2] at hc2
  cases hc2
theorem map_ne_row {xs : List Int} {m : Nat} (h : MapAt n wr m F) (hr : IRow wr B v xs) {k : Nat} (hk : v.ownBlock = some k) (e : k = m) : False := by
  obtain ⟨c2, hc2⟩ := own_tag hr hk
  obtain ⟨_, _, h2⟩ := h.isMap
  subst e
  rw [h2] at hc2
  cases hc2
end
set_option maxRecDepth 100000 in
set_option maxHeartbeats 3200000 in
theorem rising_links {n mb : Nat} {w : World} {F : Nat → Option Value} (h : MapAt n w mb F) (hn : n ≤ 32) :
    Calls Tryz.prog 72 #[.map (some mb)] w fun e w' => ∃ v, e = .returned v ∧ IRow w' w.heap.size v (nI (risL n F)) ∧ Below w.heap.size w w' := by
  obtain ⟨w1, run1, hr1, hg1, hs1⟩ := range_start h Tryz.underlying93
  have hmb := h.lt
  have HMB := hide hmb
  obtain ⟨i0, hi0, hy0, hy1, hy2⟩ := info_parts info3
  have HI := hide (And.intro hi0 (And.intro hy0 (And.intro hy1 hy2)))
  obtain ⟨B, hB⟩ : ∃ B, w.heap.size = B := ⟨_, rfl⟩
  have HBB := hide hB
  have HS : Hid (RisIn n w mb B F [] (num F n) (.slice none 0 0) w1) := by
    rw [hB] at hr1
    exact ⟨_, hr1, irow_nil _ _, ⟨hg1.os, hg1.tape, hg1.output, hg1.size, fun k hk => hg1.block k (by rw [hB]; exact hk) (by simp)⟩, fun q => ⟨fun h => absurd h List.not_mem_nil, fun ⟨_, h1, h2⟩ => by rw [h1] at h2; cases h2⟩, List.nodup_nil⟩
  rw [hB] at run1 ⊢
  clear h hr1 hg1 hs1 hi0 hy0 hy1 hy2 hB hmb
  go_enter Tryz.func72, Tryz.ntmps72
  go_wp2
  go_loopg [3] (num F n) (fun k vk wr => ∃ (L : List Nat) (va : Option Addr) (vc : Nat), vk = .slice va L.length vc ∧ Hid (RisIn n w mb B F L k (.slice va L.length vc) wr))
  case atStart => exact ⟨[], none, 0, rfl, HS.out⟩
  case round =>
    clear HS
    obtain ⟨L, va, vc, rfl, HR⟩ := hrel
    obtain ⟨todo, h1, h2, h3, h4, h5⟩ := HR.out
    have HL : Hid (L.length ≤ n) := ris_len h4 h5
    rcases range_next h1 0 with ⟨rfl, hall, hrun⟩ | ⟨q, v, w2, k2, hq, ht, hF, hrun, h1', hk, hg, hsz, hent⟩
    · have HSO := hide (sortI_any h2 (by rw [nI_len]; exact Nat.le_trans HL.out hn))
      rw [nI_len] at HSO
      have HEQ : Hid ((nI L).mergeSort (fun x y => decide (x ≤ y)) = nI (risL n F)) := sort_risL h5 fun q => by
        rw [h4 q]
        constructor
        · rintro ⟨a, b, _⟩; exact ⟨a, b⟩
        · rintro ⟨a, b⟩; exact ⟨a, b, hall q a⟩
      have H3 := hide h3
      clear h1 h2 h3 h4 h5 hall HR
      go_wp2_with (go_at_call 91; refine HSO.out.mono ?_; rintro e w3 ⟨rfl, k1, k2⟩; have H4 := hide (And.intro k1 (H3.out.trans k2)); clear k1 k2)
      go_ret
      exact ⟨_, rfl, by rw [← HEQ.out]; exact H4.out.1, H4.out.2⟩
    · have hL1 : (L ++ [q]).length = L.length + 1 := by simp
      have hLn : L.length + 1 ≤ n := ris_more h4 h5 hq ht (by rw [hF]; rfl)
      have hb2 : Below B w w2 := h3.trans ⟨hg.os, hg.tape, hg.output, hg.size, fun k hk => hg.block k (Nat.lt_of_lt_of_le hk (by rw [← HBB.out]; exact h3.size)) (fun e => by cases e; omega)⟩
      have hw2 : B ≤ w2.heap.size := by rw [← HBB.out]; exact hb2.size
      have hrow2 : IRow w2 B (.slice va L.length vc) (nI L) := own_of_block h2 fun k hk => hg.block k (h2.lt k hk).2 (fun e => by cases e; exact iter_ne_row h1 h2 hk rfl)
      have HOW : Hid ((w2.alloc (.cells #[.int .i64 q] 3)).ownsRow B 3 1 (.slice va L.length vc) L.length (intsV (nI L))) := by
        have := hrow2.alloc (.cells #[.int .i64 q] 3)
        unfold IRow at this
        rw [nI_len] at this
        exact this
      have HNW : Hid (∀ j u, [Value.int .i64 q][j]? = some u → (w2.alloc (.cells #[.int .i64 q] 3)).cell? ((⟨w2.heap.size, 0, none⟩ : Addr).add j) = some u) := World.news_of_block (cs := #[.int .i64 q]) (t := 3) (fr := (0, 0)) (heap_alloc_new _ _)
      have HEND : Hid (∀ gg cap w3, w3.ownsRow B 3 1 (.slice (some ⟨gg, 0, none⟩) (L.length + 1) cap) (L.length + 1) (intsV (nI L) ++ [.int .i64 q]) → (w2.alloc (.cells #[.int .i64 q] 3)).grownBy w3 (Value.slice va L.length vc).ownBlock → RisIn n w mb B F (L ++ [q]) k2 (.slice (some ⟨gg, 0, none⟩) (L ++ [q]).length cap) w3) := fun gg cap w3 ho hgr => by
        have hlt2 : ∀ k, (Value.slice va L.length vc).ownBlock = some k → k < w2.heap.size := fun k hk => (hrow2.lt k hk).2
        refine ⟨_, h1'.of_blocks ?_ ?_, ?_, ?_, ris_next h4 hq ht (by rw [hF]; rfl), ris_nodup h4 h5 ht⟩
        · rw [hgr.block mb (by simp; have := h1'.map.lt; omega) (fun e => map_ne_row h1'.map hrow2 e.symm rfl), Below.heap_alloc _ _ _ h1'.map.lt]
        · rw [hgr.block B (by simp; have := h1'.lt; omega) (fun e => iter_ne_row h1' hrow2 e.symm rfl), Below.heap_alloc _ _ _ h1'.lt]
        · unfold IRow
          rw [nI_app, intsV_app, show (nI L ++ nI [q]).length = L.length + 1 by simp [nI], hL1]
          exact ho
        · exact (hb2.alloc hw2 _).grown hgr (by simp; omega) fun k hk => (hrow2.lt k hk).1
      clear h1 h2 h3 h4 h5 HR h1' hg hb2 hrow2 hF ht hsz
      go_wp2_with (at_builtin; refine wpList_append_lies _ rfl (.tmp 11) (.tmp 13) 27 rfl B 3 i0 (.int .i64 0) 1 8 Tryz.underlying27 HI.out.1 HI.out.2.1 HI.out.2.2.1 HI.out.2.2.2 rfl (by decide) (.slice va L.length vc) L.length (intsV (nI L)) rfl HOW.out ⟨w2.heap.size, 0, none⟩ 1 1 [.int .i64 q] rfl rfl HNW.out (by simp [Value.oneCell']) (by decide) (by unfold maxLen; omega) (by omega) (by simp; omega) (w2.heap.size + 1) (by simp) ?_)
      intro gg cap w3 hown1 hgrow hat hlt3
      have H3 := hide (HEND.out gg cap w3 hown1 hgrow)
      clear hown1 hgrow hat HOW HNW HEND
      go_wp2
      go_roundg k2
      case measure => omega
      case rel => exact ⟨L ++ [q], _, cap, by rw [hL1], H3.out⟩
set_option maxRecDepth 100000 in
set_option maxHeartbeats 3200000 in
theorem rising_ints {n mb : Nat} {w : World} {F : Nat → Option Value} (h : MapAt n w mb F) (hn : n ≤ 32) :
    Calls Tryz.prog 104 #[.map (some mb)] w fun e w' => ∃ v, e = .returned v ∧ IRow w' w.heap.size v (nI (risL n F)) ∧ Below w.heap.size w w' := by
  obtain ⟨w1, run1, hr1, hg1, hs1⟩ := range_start h Tryz.underlying112
  have hmb := h.lt
  have HMB := hide hmb
  obtain ⟨i0, hi0, hy0, hy1, hy2⟩ := info_parts info3
  have HI := hide (And.intro hi0 (And.intro hy0 (And.intro hy1 hy2)))
  obtain ⟨B, hB⟩ : ∃ B, w.heap.size = B := ⟨_, rfl⟩
  have HBB := hide hB
  have HS : Hid (RisIn n w mb B F [] (num F n) (.slice none 0 0) w1) := by
    rw [hB] at hr1
    exact ⟨_, hr1, irow_nil _ _, ⟨hg1.os, hg1.tape, hg1.output, hg1.size, fun k hk => hg1.block k (by rw [hB]; exact hk) (by simp)⟩, fun q => ⟨fun h => absurd h List.not_mem_nil, fun ⟨_, h1, h2⟩ => by rw [h1] at h2; cases h2⟩, List.nodup_nil⟩
  rw [hB] at run1 ⊢
  clear h hr1 hg1 hs1 hi0 hy0 hy1 hy2 hB hmb
  go_enter Tryz.func104, Tryz.ntmps104
  go_wp2
  go_loopg [3] (num F n) (fun k vk wr => ∃ (L : List Nat) (va : Option Addr) (vc : Nat), vk = .slice va L.length vc ∧ Hid (RisIn n w mb B F L k (.slice va L.length vc) wr))
  case atStart => exact ⟨[], none, 0, rfl, HS.out⟩
  case round =>
    clear HS
    obtain ⟨L, va, vc, rfl, HR⟩ := hrel
    obtain ⟨todo, h1, h2, h3, h4, h5⟩ := HR.out
    have HL : Hid (L.length ≤ n) := ris_len h4 h5
    rcases range_next h1 0 with ⟨rfl, hall, hrun⟩ | ⟨q, v, w2, k2, hq, ht, hF, hrun, h1', hk, hg, hsz, hent⟩
    · have HSO := hide (sortI_any h2 (by rw [nI_len]; exact Nat.le_trans HL.out hn))
      rw [nI_len] at HSO
      have HEQ : Hid ((nI L).mergeSort (fun x y => decide (x ≤ y)) = nI (risL n F)) := sort_risL h5 fun q => by
        rw [h4 q]
        constructor
        · rintro ⟨a, b, _⟩; exact ⟨a, b⟩
        · rintro ⟨a, b⟩; exact ⟨a, b, hall q a⟩
      have H3 := hide h3
      clear h1 h2 h3 h4 h5 hall HR
      go_wp2_with (go_at_call 91; refine HSO.out.mono ?_; rintro e w3 ⟨rfl, k1, k2⟩; have H4 := hide (And.intro k1 (H3.out.trans k2)); clear k1 k2)
      go_ret
      exact ⟨_, rfl, by rw [← HEQ.out]; exact H4.out.1, H4.out.2⟩
    · have hL1 : (L ++ [q]).length = L.length + 1 := by simp
      have hLn : L.length + 1 ≤ n := ris_more h4 h5 hq ht (by rw [hF]; rfl)
      have hb2 : Below B w w2 := h3.trans ⟨hg.os, hg.tape, hg.output, hg.size, fun k hk => hg.block k (Nat.lt_of_lt_of_le hk (by rw [← HBB.out]; exact h3.size)) (fun e => by cases e; omega)⟩
      have hw2 : B ≤ w2.heap.size := by rw [← HBB.out]; exact hb2.size
      have hrow2 : IRow w2 B (.slice va L.length vc) (nI L) := own_of_block h2 fun k hk => hg.block k (h2.lt k hk).2 (fun e => by cases e; exact iter_ne_row h1 h2 hk rfl)
      have HOW : Hid ((w2.alloc (.cells #[.int .i64 q] 3)).ownsRow B 3 1 (.slice va L.length vc) L.length (intsV (nI L))) := by
        have := hrow2.alloc (.cells #[.int .i64 q] 3)
        unfold IRow at this
        rw [nI_len] at this
        exact this
      have HNW : Hid (∀ j u, [Value.int .i64 q][j]? = some u → (w2.alloc (.cells #[.int .i64 q] 3)).cell? ((⟨w2.heap.size, 0, none⟩ : Addr).add j) = some u) := World.news_of_block (cs := #[.int .i64 q]) (t := 3) (fr := (0, 0)) (heap_alloc_new _ _)
      have HEND : Hid (∀ gg cap w3, w3.ownsRow B 3 1 (.slice (some ⟨gg, 0, none⟩) (L.length + 1) cap) (L.length + 1) (intsV (nI L) ++ [.int .i64 q]) → (w2.alloc (.cells #[.int .i64 q] 3)).grownBy w3 (Value.slice va L.length vc).ownBlock → RisIn n w mb B F (L ++ [q]) k2 (.slice (some ⟨gg, 0, none⟩) (L ++ [q]).length cap) w3) := fun gg cap w3 ho hgr => by
        have hlt2 : ∀ k, (Value.slice va L.length vc).ownBlock = some k → k < w2.heap.size := fun k hk => (hrow2.lt k hk).2
        refine ⟨_, h1'.of_blocks ?_ ?_, ?_, ?_, ris_next h4 hq ht (by rw [hF]; rfl), ris_nodup h4 h5 ht⟩
        · rw [hgr.block mb (by simp; have := h1'.map.lt; omega) (fun e => map_ne_row h1'.map hrow2 e.symm rfl), Below.heap_alloc _ _ _ h1'.map.lt]
        · rw [hgr.block B (by simp; have := h1'.lt; omega) (fun e => iter_ne_row h1' hrow2 e.symm rfl), Below.heap_alloc _ _ _ h1'.lt]
        · unfold IRow
          rw [nI_app, intsV_app, show (nI L ++ nI [q]).length = L.length + 1 by simp [nI], hL1]
          exact ho
        · exact (hb2.alloc hw2 _).grown hgr (by simp; omega) fun k hk => (hrow2.lt k hk).1
      clear h1 h2 h3 h4 h5 HR h1' hg hb2 hrow2 hF ht hsz
      go_wp2_with (at_builtin; refine wpList_append_lies _ rfl (.tmp 11) (.tmp 13) 27 rfl B 3 i0 (.int .i64 0) 1 8 Tryz.underlying27 HI.out.1 HI.out.2.1 HI.out.2.2.1 HI.out.2.2.2 rfl (by decide) (.slice va L.length vc) L.length (intsV (nI L)) rfl HOW.out ⟨w2.heap.size, 0, none⟩ 1 1 [.int .i64 q] rfl rfl HNW.out (by simp [Value.oneCell']) (by decide) (by unfold maxLen; omega) (by omega) (by simp; omega) (w2.heap.size + 1) (by simp) ?_)
      intro gg cap w3 hown1 hgrow hat hlt3
      have H3 := hide (HEND.out gg cap w3 hown1 hgrow)
      clear hown1 hgrow hat HOW HNW HEND
      go_wp2
      go_roundg k2
      case measure => omega
      case rel => exact ⟨L ++ [q], _, cap, by rw [hL1], H3.out⟩
end Go.Proofs.YtojkdmkeankcgaaGreat
/-  What listed, Up and Down of a lifted graph answer: the links of one place, rising by their other ends. -/
namespace Go.Proofs.YtojkdmkeankcgaaGreat
open Go.RowKit Go.Sort

/-- A link: from, to, weight and mid. -/
abbrev Lnk := Nat × Nat × Lk
def lnkC (k : Lnk) : List Value := [.int .i64 k.1, .int .i64 k.2.1, .int .i64 k.2.2.1, .int .i64 k.2.2.2]
def lnkV (k : Lnk) : Value := .agg (lnkC k).toArray
def flatK (L : List Lnk) : List Value := L.flatMap lnkC
theorem flatK_len : ∀ L : List Lnk, (flatK L).length = L.length * 4
  | [] => rfl
  | p :: r => by rw [show flatK (p :: r) = lnkC p ++ flatK r from rfl, List.length_append, flatK_len r]; simp [lnkC]; omega
theorem flatK_app (L M : List Lnk) : flatK (L ++ M) = flatK L ++ flatK M := by simp [flatK]
theorem flatK_get : ∀ (L : List Lnk) (i j : Nat), i < L.length → j < 4 → (flatK L)[i * 4 + j]? = (lnkC L[i]!)[j]?
  | [], _, _, h, _ => by simp at h
  | p :: r, 0, j, _, hj => by
    rw [show flatK (p :: r) = lnkC p ++ flatK r from rfl, Nat.zero_mul, Nat.zero_add, List.getElem?_append_left (by simp [lnkC]; omega)]
    rfl
  | p :: r, i + 1, j, h, hj => by
    rw [show flatK (p :: r) = lnkC p ++ flatK r from rfl, List.getElem?_append_right (by simp [lnkC]; omega), show (i + 1) * 4 + j - (lnkC p).length = i * 4 + j by simp [lnkC]; omega, flatK_get r i j (by simpa using h) hj]
    simp
theorem flatK_one (L : List Lnk) : ∀ u ∈ flatK L, u.oneCell' = true := by
  intro u hu
  obtain ⟨k, _, hk⟩ := List.mem_flatMap.1 hu
  simp [lnkC] at hk
  rcases hk with rfl | rfl | rfl | rfl <;> rfl
/-- A row of links that lies at base or above. -/
def LRow (w : World) (base : Nat) (v : Value) (L : List Lnk) : Prop := w.ownsRow base 46 4 v L.length (flatK L)
theorem info59 : (Tryz.prog.info? 46).map (fun i => (i.zero, i.size, i.bytes)) = some (some (.agg #[.int .i64 0, .int .i64 0, .int .i64 0, .int .i64 0]), 4, 32) := by kernel_rfl
theorem zero59 (w : World) : (zeroValue 46).run Tryz.prog w = .ok (.agg #[.int .i64 0, .int .i64 0, .int .i64 0, .int .i64 0]) w := by kernel_rfl
section
variable {w w' : World} {base g cap m : Nat} {v : Value} {L : List Lnk}
theorem lrow_nil (w : World) (base : Nat) : LRow w base (.slice none 0 0) [] := World.ownsRow_nil _ _ _ _
theorem LRow.later {B : Nat} (h : LRow w base v L) (hB : w.heap.size ≤ B) (f : Below B w w') : LRow w' base v L := own_of_block h (fun k hk => f.block k (Nat.lt_of_lt_of_le (h.lt k hk).2 hB))
theorem LRow.mono {base' : Nat} (h : LRow w base v L) (hb : base' ≤ base) : LRow w base' v L := by
  obtain ⟨h1, h2⟩ := h
  refine ⟨h1, ?_⟩
  rcases h2 with h2 | ⟨g, cap, cur, e, a, r⟩
  · exact .inl h2
  · exact .inr ⟨g, cap, cur, e, Nat.le_trans hb a, r⟩
theorem LRow.shape (h : LRow w base v L) : ∃ a c, v = .slice a L.length c := by
  rcases h.2 with ⟨e, e2⟩ | ⟨g, cap, cur, e, _⟩
  · exact ⟨none, 0, by rw [e, e2]⟩
  · exact ⟨_, cap, e⟩
theorem LRow.form (h : LRow w base v L) (hn : 0 < L.length) : ∃ g cap, v = .slice (some ⟨g, 0, none⟩) L.length cap ∧ base ≤ g ∧ g < w.heap.size ∧ L.length ≤ cap ∧ cap ≤ 9223372036854775807 := by
  rcases h.2 with ⟨_, h0⟩ | ⟨g, cap, cur, hv, hb, hg, h1, h2, _⟩
  · omega
  · exact ⟨g, cap, hv, hb, (h.lt g (by rw [hv]; rfl)).2, h1, by unfold maxLen at h2; omega⟩
theorem LRow.cells (h : LRow w base (.slice (some ⟨g, 0, none⟩) m cap) L) (i : Nat) (hi : i < L.length) :
    w.cell? ⟨g, i * 4, none⟩ = some (.int .i64 L[i]!.1) ∧ w.cell? ⟨g, i * 4 + 1, none⟩ = some (.int .i64 L[i]!.2.1) ∧ w.cell? ⟨g, i * 4 + 2, none⟩ = some (.int .i64 L[i]!.2.2.1) ∧ w.cell? ⟨g, i * 4 + 3, none⟩ = some (.int .i64 L[i]!.2.2.2) := by
  have hc : ∀ j, j < 4 → ∀ u, (lnkC L[i]!)[j]? = some u → w.cell? ⟨g, i * 4 + j, none⟩ = some u := fun j hj u hu => by
    have := World.ownsRow.cells (g := g) h rfl (i * 4 + j) u (by rw [flatK_get L i j hi hj]; exact hu)
    rw [add0] at this
    exact this
  exact ⟨hc 0 (by omega) _ rfl, hc 1 (by omega) _ rfl, hc 2 (by omega) _ rfl, hc 3 (by omega) _ rfl⟩
end
/-! ### listed -/
theorem take_filterMap {n : Nat} (G : Nat → Option Lnk) {i : Nat} (hi : i < (risL n G).length) {k : Lnk} (hk : G (risL n G)[i]! = some k) : ((risL n G).take (i + 1)).filterMap G = ((risL n G).take i).filterMap G ++ [k] := by
  rw [List.take_add_one, List.filterMap_append]
  congr 1
  rw [List.getElem?_eq_getElem hi]
  rw [getElem!_pos (risL n G) i hi] at hk
  simp [hk]
theorem ris_filterMap (n : Nat) (G : Nat → Option Lnk) : (risL n G).filterMap G = (List.range n).filterMap G := by
  unfold risL
  rw [List.filterMap_filter]
  congr 1
  funext q
  cases h : G q <;> simp
theorem ris_at {n : Nat} {G : Nat → Option Lnk} {i : Nat} (hi : i < (risL n G).length) : (risL n G)[i]! < n ∧ ∃ k, G (risL n G)[i]! = some k := by
  have := mem_risL.1 (show (risL n G)[i]! ∈ risL n G by rw [getElem!_pos (risL n G) i hi]; exact List.getElem_mem hi)
  exact ⟨this.1, Option.isSome_iff_exists.1 this.2⟩
theorem len_filterMap {n : Nat} (G : Nat → Option Lnk) (i : Nat) : (((risL n G).take i).filterMap G).length ≤ i :=
  Nat.le_trans (List.length_filterMap_le _ _) (by rw [List.length_take]; omega)
/-- While listed runs. -/
structure LiIn (n : Nat) (w : World) (mb B : Nat) (G : Nat → Option Lnk) (ga : Option Addr) (gc i : Nat) (v : Value) (wr : World) : Prop where
  map : MapAt n wr mb fun q => (G q).map lnkV
  keys : IRow wr B (.slice ga (risL n G).length gc) (nI (risL n G))
  row : LRow wr B v (((risL n G).take i).filterMap G)
  below : Below B w wr
theorem lrow_ne_map {n B m : Nat} {wr : World} {v : Value} {L : List Lnk} {F : Nat → Option Value} (h : MapAt n wr m F) (hr : LRow wr B v L) {k : Nat} (hk : v.ownBlock = some k) (e : k = m) : False := by
  obtain ⟨c2, hc2⟩ := own_tag hr hk
  obtain ⟨_, _, h2⟩ := h.isMap
  subst e
  rw [h2] at hc2
  cases hc2
theorem lrow_ne_irow {B : Nat} {wr : World} {v u : Value} {L : List Lnk} {xs : List Int} (h : IRow wr B u xs) (hr : LRow wr B v L) {k j : Nat} (hk : v.ownBlock = some k) (hj : u.ownBlock = some j) (e : k = j) : False := by
  obtain ⟨c2, hc2⟩ := own_tag hr hk
  obtain ⟨c3, hc3⟩ := own_tag h hj
  subst e
  rw [hc3] at hc2
  simp at hc2
set_option maxRecDepth 100000 in
set_option maxHeartbeats 3200000 in
theorem listed_any {n mb : Nat} {w : World} {G : Nat → Option Lnk} (h : MapAt n w mb fun q => (G q).map lnkV) (hn : n ≤ 32) :
    Calls Tryz.prog 50 #[.map (some mb)] w fun e w' => ∃ v, e = .returned v ∧ LRow w' w.heap.size v ((List.range n).filterMap G) ∧ Below w.heap.size w w' := by
  have HRI := hide (rising_links h hn)
  have hsame : risL n (fun q => (G q).map lnkV) = risL n G := risL_same fun q _ => by cases G q <;> rfl
  rw [hsame] at HRI
  have HM := hide h
  obtain ⟨i0, hi0, hy0, hy1, hy2⟩ := info_parts info59
  have HI := hide (And.intro hi0 (And.intro hy0 (And.intro hy1 hy2)))
  have hlen : (risL n G).length ≤ n := by rw [risL_len]; exact num_le G n
  obtain ⟨B, hB⟩ : ∃ B, w.heap.size = B := ⟨_, rfl⟩
  have HBB := hide hB
  rw [hB] at HRI ⊢
  clear h hi0 hy0 hy1 hy2 hB hsame
  go_enter Tryz.func50, Tryz.ntmps50
  go_wp2_with (go_at_call 72; refine HRI.out.mono ?_; rintro e w1 ⟨v, rfl, h1, h2⟩; obtain ⟨ga, gc, rfl⟩ := h1.shape; rw [nI_len] at h1 ⊢; have H1 : Hid (LiIn n w mb B G ga gc 0 (.slice none 0 0) w1) := ⟨HM.out.of_block (h2.block mb (by rw [← HBB.out]; exact HM.out.lt)), h1, lrow_nil _ _, h2⟩; clear h1 h2)
  go_loopw [3, 9] (fun vl vi wr => ∃ (i : Nat) (va : Option Addr) (vc : Nat), vl = .slice va (((risL n G).take i).filterMap G).length vc ∧ vi = .int .i64 i ∧ i ≤ (risL n G).length ∧ Hid (LiIn n w mb B G ga gc i (.slice va (((risL n G).take i).filterMap G).length vc) wr)) (fun _ vi _ => (risL n G).length - (intOf vi).toNat)
  case atStart => exact ⟨0, none, 0, rfl, rfl, Nat.zero_le _, H1.out⟩
  case round =>
    clear H1
    obtain ⟨i, va, vc, rfl, rfl, hi, HR⟩ := hrel
    by_cases hil : i < (risL n G).length
    · obtain ⟨hq, k, hk⟩ := ris_at hil
      obtain ⟨g1, c1, hv, _, _, _, _⟩ := HR.out.keys.form (by rw [nI_len]; omega)
      have hkc := HR.out.keys
      injection hv with e1 e2 e3
      subst e1 e3
      have x1 := hkc.cell i (by rw [nI_len]; exact hil)
      rw [nI_get _ _ hil] at x1
      have HTK := hide (take_filterMap G hil hk)
      have HLL := hide (len_filterMap (n := n) G i)
      obtain ⟨q, hq'⟩ : ∃ q, (risL n G)[i]! = q := ⟨_, rfl⟩
      rw [hq'] at hq hk x1
      have x2 := (MapAt.look HR.out.map Tryz.underlying93 (zero59 wr) hq (by omega)).1
      simp only [hk, Option.map_some, Option.getD_some] at x2
      obtain ⟨k1, k2, k3, k4⟩ := k
      simp only [lnkV, lnkC] at x2
      obtain ⟨N, hN⟩ : ∃ N, (risL n G).length = N := ⟨_, rfl⟩
      have HNN := hide hN
      rw [hN] at hil
      have i1 : (i : Int) < (N : Int) := by omega
      generalize hL1 : ((risL n G).take i).filterMap G = L1 at HR HTK HLL ⊢
      have HL1 := hide hL1
      have hBr : B ≤ wr.heap.size := by rw [← HBB.out]; exact HR.out.below.size
      have hL32 : L1.length ≤ 32 := by have := HLL.out; omega
      have HOW : Hid ((wr.alloc (.cells #[.int .i64 k1, .int .i64 k2, .int .i64 k3, .int .i64 k4] 46)).ownsRow B 46 4 (.slice va L1.length vc) L1.length (flatK L1)) := World.ownsRow.alloc (show LRow wr B (.slice va L1.length vc) L1 from HL1.out ▸ HR.out.row) _
      have HNW : Hid (∀ j u, [Value.int .i64 k1, .int .i64 k2, .int .i64 k3, .int .i64 k4][j]? = some u → (wr.alloc (.cells #[.int .i64 k1, .int .i64 k2, .int .i64 k3, .int .i64 k4] 46)).cell? ((⟨wr.heap.size, 0, none⟩ : Addr).add j) = some u) := World.news_of_block (cs := #[.int .i64 k1, .int .i64 k2, .int .i64 k3, .int .i64 k4]) (t := 46) (fr := (0, 0)) (heap_alloc_new _ _)
      have HEND : Hid (∀ gg cap w3, w3.ownsRow B 46 4 (.slice (some ⟨gg, 0, none⟩) (L1.length + 1) cap) (L1.length + 1) (flatK L1 ++ [.int .i64 k1, .int .i64 k2, .int .i64 k3, .int .i64 k4]) → (wr.alloc (.cells #[.int .i64 k1, .int .i64 k2, .int .i64 k3, .int .i64 k4] 46)).grownBy w3 (Value.slice va L1.length vc).ownBlock → LiIn n w mb B G (some ⟨g1, 0, none⟩) gc (i + 1) (.slice (some ⟨gg, 0, none⟩) (L1.length + 1) cap) w3 ∧ (((risL n G).take (i + 1)).filterMap G).length = L1.length + 1) := fun gg cap w3 ho hgr => by
        have hR := HR.out
        have hrl : LRow wr B (.slice va L1.length vc) L1 := HL1.out ▸ hR.row
        have e : ((risL n G).take (i + 1)).filterMap G = L1 ++ [(k1, k2, k3, k4)] := by rw [HTK.out]
        refine ⟨⟨hR.map.of_block ?_, ?_, ?_, ?_⟩, by rw [e]; simp⟩
        · rw [hgr.block mb (by simp; have := hR.map.lt; omega) (fun e => lrow_ne_map hR.map hrl e.symm rfl), Below.heap_alloc _ _ _ hR.map.lt]
        · refine own_of_block hR.keys fun j hj => ?_
          have hjl := (hR.keys.lt j hj).2
          rw [hgr.block j (by simp; omega) (fun e => lrow_ne_irow hR.keys hrl e.symm hj rfl), Below.heap_alloc _ _ _ hjl]
        · unfold LRow
          rw [e, flatK_app, show (L1 ++ [(k1, k2, k3, k4)]).length = L1.length + 1 by simp]
          exact ho
        · exact (hR.below.alloc hBr _).grown hgr (by simp; omega) fun k hk => (hrl.lt k hk).1
      rw [hN]
      clear hkc hk hL1 hN hq'
      go_wp2_with (at_builtin; refine wpList_append_lies _ rfl (.tmp 13) (.tmp 17) 43 rfl B 46 i0 (.agg #[.int .i64 0, .int .i64 0, .int .i64 0, .int .i64 0]) 4 32 Tryz.underlying43 HI.out.1 HI.out.2.1 HI.out.2.2.1 HI.out.2.2.2 rfl (by decide) (.slice va L1.length vc) L1.length (flatK L1) rfl HOW.out ⟨wr.heap.size, 0, none⟩ 1 1 [.int .i64 k1, .int .i64 k2, .int .i64 k3, .int .i64 k4] rfl rfl HNW.out (by simp [Value.oneCell']) (by decide) (by unfold maxLen; omega) (by omega) (by simp; omega) (wr.heap.size + 1) (by simp) ?_)
      intro gg cap w3 hown1 hgrow hat hlt3
      have H3 := hide (HEND.out gg cap w3 hown1 hgrow)
      clear hown1 hgrow hat HOW HNW HEND
      go_wp2
      go_roundw
      case rel => exact ⟨i + 1, _, cap, by rw [H3.out.2], by go_num, by omega, by rw [H3.out.2]; exact H3.out.1⟩
      case measure => simp [intOf]; omega
    · have e : i = (risL n G).length := by omega
      have HE : Hid (((risL n G).take i).filterMap G = (List.range n).filterMap G) := by show _ = _; rw [e, List.take_of_length_le (Nat.le_refl _), ris_filterMap]
      obtain ⟨N, hN⟩ : ∃ N, (risL n G).length = N := ⟨_, rfl⟩
      rw [hN] at hil ⊢
      have i1 : ¬ (i : Int) < (N : Int) := by omega
      have HF : Hid (LRow wr B (.slice va (((risL n G).take i).filterMap G).length vc) ((List.range n).filterMap G) ∧ Below B w wr) := ⟨by rw [← HE.out]; exact HR.out.row, HR.out.below⟩
      replace e := hide e
      clear hN HR HE
      generalize (((risL n G).take i).filterMap G).length = m1 at HF ⊢
      go_wp2
      go_ret
      exact ⟨_, rfl, HF.out.1, HF.out.2⟩
/-! ### Up, Down -/
/-- The links that lead up from p, and those that come down to q, rising by their other ends. -/
def upL (n : Nat) (U : Mx) (p : Nat) : List Lnk := (List.range n).filterMap fun q => (U p q).map fun k => (p, q, k)
def dnL (n : Nat) (V : Mx) (q : Nat) : List Lnk := (List.range n).filterMap fun p => (V p q).map fun k => (p, q, k)
theorem upF_eq (U : Mx) (p : Nat) : upF U p = fun q => ((U p q).map fun k => ((p, q, k) : Lnk)).map lnkV := by
  funext q
  unfold upF
  cases U p q <;> rfl
theorem dnF_eq (V : Mx) (q : Nat) : dnF V q = fun p => ((V p q).map fun k => ((p, q, k) : Lnk)).map lnkV := by
  funext p
  unfold dnF
  cases V p q <;> rfl
section
variable {n : Nat} {w : World} {b : LfB} {rv : Nat → Int} {U V : Mx}
theorem lup_any (h : LfA n w b rv U V) (hn : n ≤ 32) {p : Nat} (hp : p < n) : Calls Tryz.prog 18 #[.pointer (some ⟨b.l, 0, none⟩), .int .i64 p] w fun e w' => ∃ v, e = .returned v ∧ LRow w' w.heap.size v (upL n U p) ∧ Below w.heap.size w w' := by
  have HP := hide (lisplace_any h hn p)
  rw [show inP n (p : Int) = true from decide_eq_true (by omega)] at HP
  have hm := h.mu p hp
  rw [upF_eq] at hm
  have HL := hide (listed_any hm hn)
  have c1 := h.c1
  have cu := h.cu hp
  have i1 : (p : Int) < (n : Int) := by omega
  clear h hm
  go_enter Tryz.func18, Tryz.ntmps18
  go_wp2_with (first | (go_at_call 49; refine HP.out.mono ?_; rintro e w' ⟨rfl, hw⟩; rw [hw]; clear hw) | (go_at_call 50; refine HL.out.mono ?_; rintro e w1 ⟨v, rfl, h1, h2⟩; have H1 := hide (And.intro h1 h2); clear h1 h2))
  go_ret
  exact ⟨_, rfl, H1.out.1, H1.out.2⟩
theorem ldown_any (h : LfA n w b rv U V) (hn : n ≤ 32) {p : Nat} (hp : p < n) : Calls Tryz.prog 19 #[.pointer (some ⟨b.l, 0, none⟩), .int .i64 p] w fun e w' => ∃ v, e = .returned v ∧ LRow w' w.heap.size v (dnL n V p) ∧ Below w.heap.size w w' := by
  have HP := hide (lisplace_any h hn p)
  rw [show inP n (p : Int) = true from decide_eq_true (by omega)] at HP
  have hm := h.md p hp
  rw [dnF_eq] at hm
  have HL := hide (listed_any hm hn)
  have c1 := h.c2
  have cu := h.cd hp
  have i1 : (p : Int) < (n : Int) := by omega
  clear h hm
  go_enter Tryz.func19, Tryz.ntmps19
  go_wp2_with (first | (go_at_call 49; refine HP.out.mono ?_; rintro e w' ⟨rfl, hw⟩; rw [hw]; clear hw) | (go_at_call 50; refine HL.out.mono ?_; rintro e w1 ⟨v, rfl, h1, h2⟩; have H1 := hide (And.intro h1 h2); clear h1 h2))
  go_ret
  exact ⟨_, rfl, H1.out.1, H1.out.2⟩
end
end Go.Proofs.YtojkdmkeankcgaaGreat
