/-
  What show.joined does of a tree.
-/
import Derived.Test.YtpffhckimilppaaDoorShTree
import Derived.Test.YtpffhckimilppaaDoorJoinQ
namespace Go.Proofs.YtpffhckimilppaaDoor
open Go.RowKit

theorem info_parts {P : Program} {t : TypeId} {z : Value} {s b : Nat} (h : (P.info? t).map (fun i => (i.zero, i.size, i.bytes)) = some (some z, s, b)) : ∃ i, P.info? t = some i ∧ i.zero = some z ∧ i.size = s ∧ i.bytes = b := by
  cases e : P.info? t with
  | none => rw [e] at h; cases h
  | some i =>
    rw [e] at h
    simp only [Option.map_some, Option.some.injEq, Prod.mk.injEq] at h
    exact ⟨i, rfl, h.1, h.2.1, h.2.2⟩
theorem info4 : (Tryd.prog.info? 4).map (fun i => (i.zero, i.size, i.bytes)) = some (some (.bool false), 1, 1) := by kernel_rfl
theorem made_bools (n : Nat) (hn : n ≤ 10000) (w : World) : (Instr.makeSlice 52 (.int .i64 n) (.int .i64 n)).run Tryd.prog w = .ok (.slice (some ⟨w.heap.size, 0, none⟩) n n) (w.alloc (.cells (Array.replicate n (.bool false)) 4)) := by
  obtain ⟨i0, hi0, hz0, hz1, hz2⟩ := info_parts info4
  have := run_makeSlice (P := Tryd.prog) w 52 4 i0 _ Tryd.underlying52 hi0 hz0 .i64 .i64 n n (by omega) (by omega) (by rw [hz1]; omega) (by rw [hz2]; omega) (by omega)
  rw [hz1] at this
  simp only [Int.toNat_natCast, Nat.mul_one] at this
  have e : madeCells (Value.bool false).cells n = Array.replicate n (Value.bool false) := by
    apply Array.ext
    · simp [madeCells]
    · intro i h1 h2
      simp [madeCells, Value.cells, Nat.mod_one]
  rw [e] at this
  exact this
theorem cells_made (w : World) (n : Nat) (e : TypeId) (v : Value) : Cells (w.alloc (.cells (Array.replicate n v) e)) w.heap.size n e (fun _ => v) :=
  ⟨_, heap_alloc_new w _, by simp, fun j hj => by simp [hj]⟩
def seenV (s : List Int) : Nat → Value := fun j => .bool (decide ((j : Int) ∈ s))
theorem seen_more {s : List Int} {n : Nat} (j : Nat) : (if j = n then Value.bool true else seenV s j) = seenV (s ++ [(n : Int)]) j := by
  unfold seenV
  by_cases e : j = n
  · subst e; simp
  · have : ¬ (j : Int) = (n : Int) := by omega
    rw [if_neg e]
    congr 1
    rw [Bool.eq_iff_iff]
    simp [this]
theorem take_split {L : List (List Int)} {k : Nat} {b : List Int} (h : L[k]? = some b) : ∃ R, L = L.take k ++ b :: R := by
  refine ⟨L.drop (k + 1), ?_⟩
  obtain ⟨hk, rfl⟩ := List.getElem?_eq_some_iff.1 h
  rw [← List.drop_eq_getElem_cons, List.take_append_drop]
theorem take_next {L : List (List Int)} {k : Nat} {b : List Int} (h : L[k]? = some b) : L.take (k + 1) = L.take k ++ [b] := by
  rw [List.take_add_one, h]; rfl
theorem take_mid {L : List Int} {k : Nat} {b : Int} (h : L[k]? = some b) : L = L.take k ++ b :: L.drop (k + 1) := by
  obtain ⟨hk, rfl⟩ := List.getElem?_eq_some_iff.1 h
  rw [← List.drop_eq_getElem_cons, List.take_append_drop]
set_option maxRecDepth 100000 in
set_option maxHeartbeats 3200000 in
theorem joined_any {T : List VI} {v : Value} {w : World} (hT : TreeAt w v T) (h1 : 0 < T.length) (hL : T.length ≤ 8192) : Calls Tryd.prog 22 #[v] w fun e w' => e = .returned (.bool (joinedB (T.map VI.kids))) ∧ Below w.heap.size w w' := by
  obtain ⟨a, ca, rfl, hl, ha⟩ := hT
  have HA : Hid (∀ i x, T[i]? = some x → ∃ g o nv kv, a = some ⟨g, o, none⟩ ∧ VAt w x nv kv ∧ ∀ j u, (aggI x nv kv)[j]? = some u → w.cell? ⟨g, o + i * 6 + j, none⟩ = some u) := ha
  clear ha
  have r1 := made_bools T.length (by omega) w
  generalize hB : w.heap.size = B
  rw [hB] at r1
  have hc0 : Cells (w.alloc (.cells (Array.replicate T.length (.bool false)) 4)) B T.length 4 (fun _ => .bool false) := by rw [← hB]; exact cells_made _ _ _ _
  have hb0 : Below B w (w.alloc (.cells (Array.replicate T.length (.bool false)) 4)) := (Below.refl B w).alloc (by omega) _
  generalize hw0 : w.alloc (.cells (Array.replicate T.length (.bool false)) 4) = w0 at r1 hc0 hb0
  go_enter Tryd.func22, Tryd.ntmps22
  go_wp2
  go_loopw [4, 14] (fun c i wr => ∃ (k : Nat) (s : List Int), k ≤ T.length ∧ i = .int .i64 k ∧ c = .int .i64 s.length ∧ jnT 0 [] ((T.map VI.kids).take k) = some s ∧ Cells wr B T.length 4 (seenV s) ∧ Below B w wr) (fun _ i _ => T.length - (intOf i).toNat)
  case atStart => exact ⟨0, [], Nat.zero_le _, rfl, rfl, rfl, hc0.eq (fun j _ => by simp [seenV]), hb0⟩
  case round =>
    obtain ⟨k, s, hk, rfl, rfl, hs, hcs, hbr⟩ := hrel
    by_cases hlt : k < T.length
    · obtain ⟨x, hx⟩ : ∃ x, T[k]? = some x := ⟨_, List.getElem?_eq_getElem hlt⟩
      obtain ⟨g, o, nv, kv, rfl, hva, hc⟩ := HA.out k x hx
      have hbr' : Below w.heap.size w wr := by rw [hB]; exact hbr
      obtain ⟨⟨na, nc, rfl, hnl, _⟩, ⟨ka, kc, rfl, hkl, hkk⟩⟩ := hva
      obtain ⟨c0, c1, c2, c3, c4, c5⟩ := six_cells (w := wr) (fun j u hj => (hbr'.cell (block_lt_of_cell (hc j u hj))).trans (hc j u hj))
      have hg1 : ¬ wr.heap.size = g := World.new_ne wr _ c0
      have hkl2 : x.kids.length ≤ 9223372036854775807 := by simpa using hkl
      have hBs : w.heap.size ≤ wr.heap.size := hbr.size
      have HCS := hide hcs
      have HS := hide hs
      have HBR := hide hbr
      have HKK := hide hkk
      clear hc hbr' hcs hs hbr hkk
      go_wp2
      generalize hW : World.alloc wr _ = W0
      have hb1 : Below B w W0 := by rw [← hW]; exact HBR.out.alloc (by rw [← hB]; exact hBs) _
      have hc1 : Cells W0 B T.length 4 (seenV s) := by rw [← hW]; exact HCS.out.later ((Below.refl wr.heap.size wr).alloc (Nat.le_refl _) _) HCS.out.lt
      have hs1 : jnT 0 [] ((T.map VI.kids).take k ++ [x.kids.take 0]) = some s := by rw [List.take_zero, jn_begin]; exact HS.out
      have HTK := hide (take_split (L := T.map VI.kids) (k := k) (b := x.kids) (by rw [List.getElem?_map, hx]; rfl))
      clear hW c0 c1 c2 c3 c4 c5 hg1
      go_loopw [4, 22] (fun c i wq => ∃ (m : Nat) (s : List Int), m ≤ x.kids.length ∧ i = .int .i64 m ∧ c = .int .i64 s.length ∧ jnT 0 [] ((T.map VI.kids).take k ++ [x.kids.take m]) = some s ∧ Cells wq B T.length 4 (seenV s) ∧ Below B w wq) (fun _ i _ => x.kids.length - (intOf i).toNat)
      case atStart => exact ⟨0, s, Nat.zero_le _, rfl, rfl, hs1, hc1, hb1⟩
      case round =>
        clear hs1 hc1 hb1
        obtain ⟨m, s2, hm, rfl, rfl, hs2, hc2, hb2⟩ := hrel
        by_cases hlm : m < x.kids.length
        · obtain ⟨y, hy⟩ : ∃ y, x.kids[m]? = some y := ⟨_, List.getElem?_eq_getElem hlm⟩
          obtain ⟨gk, rfl, hck⟩ := HKK.out m (intv y) (by rw [List.getElem?_map, hy]; rfl)
          have e1 := (hb2.cell (by rw [← hB]; exact block_lt_of_cell hck)).trans hck
          unfold intv at e1
          clear hck
          have hst := jn_step (x := y) hs2
          have htk : x.kids.take (m + 1) = x.kids.take m ++ [y] := by rw [List.take_add_one, hy]; rfl
          have hlen : ((T.map VI.kids).take k).length = k := by simp; omega
          rw [hlen] at hst
          have hfalse : jnT 0 [] ((T.map VI.kids).take k ++ [x.kids.take m ++ [y]]) = none → joinedB (T.map VI.kids) = false := fun h => by
            obtain ⟨R, hR⟩ := HTK.out
            have h2 := jn_none (R := R) (r := x.kids.drop (m + 1)) h
            rw [← take_mid hy, ← hR] at h2
            unfold joinedB
            rw [h2]
          by_cases y0 : y < 0
          · have hj := hfalse (by rw [hst, if_pos (.inl y0)])
            clear hst hfalse
            go_wp2
            go_ret
            first | exact ⟨rfl, hb2⟩ | exact ⟨by rw [hj]; rfl, hb2⟩
          by_cases y1 : (k : Int) ≤ y
          · have hj := hfalse (by rw [hst, if_pos (.inr (.inl y1))])
            clear hst hfalse
            go_wp2
            go_ret
            first | exact ⟨rfl, hb2⟩ | exact ⟨by rw [hj]; rfl, hb2⟩
          obtain ⟨n, rfl⟩ : ∃ n : Nat, y = (n : Int) := ⟨y.toNat, by omega⟩
          have hnk : n < k := by omega
          have hnT : n < T.length := by omega
          have hcn := hc2.cell n hnT
          have hfr := hc2.frozen n
          by_cases y2 : (n : Int) ∈ s2
          · have hj := hfalse (by rw [hst, if_pos (.inr (.inr y2))])
            replace hcn := hcn.trans (show some (seenV s2 n) = some (.bool true) by simp [seenV, y2])
            clear hst hfalse
            go_wp2
            go_ret
            first | exact ⟨rfl, hb2⟩ | exact ⟨by rw [hj]; rfl, hb2⟩
          · replace hcn := hcn.trans (show some (seenV s2 n) = some (.bool false) by simp [seenV, y2])
            rw [if_neg (by rintro (h | h | h); exact y0 h; exact y1 h; exact y2 h)] at hst
            have hl2 : s2.length ≤ 8193 := by have := jn_len hs2; simp at this; omega
            have HST := hide hst
            have HC2 := hide hc2
            have HB2 := hide hb2
            have HM : Hid (m + 1 ≤ x.kids.length) := hlm
            clear hst hfalse hs2 hc2 hb2
            go_wp2
            go_roundw
            case rel => exact ⟨m + 1, s2 ++ [(n : Int)], HM.out, by go_num, by simp, by rw [htk]; exact HST.out, (HC2.out.set n (.bool true)).eq (fun j _ => seen_more j), HB2.out.setCell (Nat.le_refl _) _⟩
            case measure => have := HM.out; simp [intOf]; omega
        · go_wp2
          go_roundw
          case rel => exact ⟨k + 1, s2, by omega, by go_num, rfl, by rw [show m = x.kids.length by omega, List.take_length] at hs2; rw [take_next (by rw [List.getElem?_map, hx]; rfl)]; exact hs2, hc2, hb2⟩
          case measure => simp [intOf]; omega
    · have hkT : k = T.length := by omega
      have hj : joinedB (T.map VI.kids) = ((s.length : Int) == (T.length : Int) - 1) := by
        rw [hkT, List.take_of_length_le (by simp)] at hs
        unfold joinedB
        rw [hs]
        simp only [List.length_map]
        rw [Bool.eq_iff_iff]; simp
      go_wp2
      go_ret
      exact ⟨by rw [hj]; rfl, hbr⟩
end Go.Proofs.YtpffhckimilppaaDoor
