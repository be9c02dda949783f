/-
  Opens an argument that is a tree.
-/
import Derived.Test.YtpffhckimilppaaDoorRows
import Derived.Test.YtpffhckimilppaaDoorApart
import Derived.Test.YtpffhckimilppaaDoorCopyA
import Derived.ProofKit
import Derived.OpenShut
import Derived.Carry
import Derived.SizedLaws
import Derived.SliceStrings
import Derived.Deep.Slices
namespace Go.Proofs.YtpffhckimilppaaDoor
open Go.ChangeShapes Go.WideShapes Go.ChangeAt Go.WideMaps Go.WideElems Go.RowKit Go.Deep
set_option maxRecDepth 100000

theorem own : ownKnob Tryd.prog.godebug = none := by kernel_rfl
theorem laidOut : laidOutB Tryd.prog = true := by kernel_rfl
theorem cells42 : Tryd.prog.cellsOf 42 = 6 := by kernel_rfl
theorem cells3 : Tryd.prog.cellsOf 3 = 1 := by kernel_rfl
theorem cells9 : Tryd.prog.cellsOf 9 = 1 := by kernel_rfl
theorem cells38 : Tryd.prog.cellsOf 38 = 1 := by kernel_rfl
theorem cells4 : Tryd.prog.cellsOf 4 = 1 := by kernel_rfl
theorem cells39 : Tryd.prog.cellsOf 39 = 1 := by kernel_rfl
theorem cells40 : Tryd.prog.cellsOf 40 = 1 := by kernel_rfl
theorem bytes3 : Tryd.prog.bytesOf 3 = 8 := by kernel_rfl
theorem bytes9 : Tryd.prog.bytesOf 9 = 16 := by kernel_rfl
/-- What is known of a value that came in. -/
structure InV (x : VI) : Prop where
  text : x.text.length ≤ reachBytes
  texts : ∀ s ∈ x.names, s.length ≤ reachBytes
  num : -9223372036854775808 ≤ x.num ∧ x.num ≤ 9223372036854775807
  names : x.names.length * 16 ≤ reachBytes
  kids : x.kids.length * 8 ≤ reachBytes
theorem mem_weightsAll {H : Type} {e : TypeId} {d : DataW H} {k : Nat} : ∀ {l : List (DataW H)}, d ∈ l → k ∈ d.weights Tryd.prog e → k ∈ DataW.weightsAll Tryd.prog e l
  | [], h, _ => by cases h
  | y :: r, h, hk => by
    unfold DataW.weightsAll
    rcases List.mem_cons.1 h with rfl | h
    · exact List.mem_append.2 (.inl hk)
    · exact List.mem_append.2 (.inr (mem_weightsAll h hk))
section
variable {H : Type} {enc : TypeId × Value → H} {W : World}
theorem open_names {n : Nat} {v : Value} {y : DataW H × List MemPlace} (h : DataW.trod enc Tryd.prog W 0 (fun _ => true) true n 39 [v] = some y) (hw : ∀ k ∈ y.1.weights Tryd.prog 39, k ≤ reachBytes) :
    ∃ ns : List (List UInt8), SlAt W v (ns.map strv) ∧ ns.length * 16 ≤ reachBytes ∧ ∀ s ∈ ns, s.length ≤ reachBytes := by
  rcases open_strings Tryd.underlying39 Tryd.underlying9 cells9 h with ⟨hcs, _⟩ | ⟨a, len, cap, ss, hcs, _, hl, hm, hz, hx, hcell, hwz⟩
  · cases hcs
    exact ⟨[], ⟨none, 0, rfl, by simp, fun j u h => by simp at h⟩, by simp, fun s h => by simp at h⟩
  · cases hcs
    simp only [if_true] at hz
    have hlen : ((ss.take len).map fun s => s.data.toList).length = len := by rw [List.length_map, List.length_take]; omega
    have hy : y.1 = .slice (strs (ss.take len)) (strs (ss.drop len)) := congrArg Prod.fst hx
    rw [hy] at hw
    unfold maxLen at hm
    refine ⟨(ss.take len).map fun s => s.data.toList, ⟨some a, cap, by rw [List.length_map, hlen], by rw [List.length_map, hlen]; omega, fun j u hu => ⟨a, rfl, ?_⟩⟩, ?_, fun s hs => ?_⟩
    · have hj : j < len := by
        have := (List.getElem?_eq_some_iff.1 hu).1
        rw [List.length_map, hlen] at this; exact this
      rw [hcell j (by omega)]
      rw [List.getElem?_map, List.getElem?_map, List.getElem?_take, if_pos hj, List.getElem?_eq_getElem (by omega)] at hu
      simp [strv] at hu
      rw [← hu]
      simp [List.getD, show j < ss.length by omega]
    · have := hw ((len + (cap - len)) * 16) (by
        simp only [DataW.weights, Tryd.underlying39, bytes9]
        refine List.mem_cons.2 (.inl ?_)
        simp [strs, hz, Nat.min_eq_left hl])
      rw [hlen]; omega
    · obtain ⟨s0, hs0, rfl⟩ := List.mem_map.1 hs
      refine hw _ ?_
      simp only [DataW.weights, Tryd.underlying39]
      refine List.mem_cons.2 (.inr (List.mem_append.2 (.inl (mem_weightsAll (d := .lit (.string s0.data.toList)) ?_ ?_))))
      · exact List.mem_map.2 ⟨s0, hs0, rfl⟩
      · simp [DataW.weights]
theorem open_kids {n : Nat} {v : Value} {y : DataW H × List MemPlace} (h : DataW.trod enc Tryd.prog W 0 (fun _ => true) true n 40 [v] = some y) (hw : ∀ k ∈ y.1.weights Tryd.prog 40, k ≤ reachBytes) :
    ∃ ks : List Int, SlAt W v (ks.map intv) ∧ ks.length * 8 ≤ reachBytes := by
  rcases open_ints Tryd.underlying40 Tryd.underlying3 cells3 h with ⟨hcs, _⟩ | ⟨a, len, cap, zs, hcs, _, hl, hm, hz, hx, hcell, hwz⟩
  · cases hcs
    exact ⟨[], ⟨none, 0, rfl, by simp, fun j u h => by simp at h⟩, by simp⟩
  · cases hcs
    simp only [if_true] at hz
    have hlen : (zs.take len).length = len := by rw [List.length_take]; omega
    have hy : y.1 = .slice (lits .i64 (zs.take len)) (lits .i64 (zs.drop len)) := congrArg Prod.fst hx
    rw [hy] at hw
    unfold maxLen at hm
    refine ⟨zs.take len, ⟨some a, cap, by rw [List.length_map, hlen], by rw [List.length_map, hlen]; omega, fun j u hu => ⟨a, rfl, ?_⟩⟩, ?_⟩
    · have hj : j < len := by
        have := (List.getElem?_eq_some_iff.1 hu).1
        rw [List.length_map, hlen] at this; exact this
      rw [hcell j (by omega)]
      rw [List.getElem?_map, List.getElem?_take, if_pos hj, List.getElem?_eq_getElem (by omega)] at hu
      simp [intv] at hu
      rw [← hu]
      simp [List.getD, show j < zs.length by omega]
    · have := hw ((len + (cap - len)) * 8) (by
        simp only [DataW.weights, Tryd.underlying40, bytes3]
        refine List.mem_cons.2 (.inl ?_)
        simp [lits, hz, Nat.min_eq_left hl])
      rw [hlen]; omega
theorem open_value {n : Nat} {cs : List Value} {y : DataW H × List MemPlace} (h : DataW.trod enc Tryd.prog W 0 (fun _ => true) true n 42 cs = some y) (hw : ∀ k ∈ y.1.weights Tryd.prog 42, k ≤ reachBytes) :
    ∃ (x : VI) (nv kv : Value), cs = aggI x nv kv ∧ VAt W x nv kv ∧ InV x := by
  obtain ⟨xs, m, _, rfl, hl, hlen, hf⟩ := DataW.trod_struct Tryd.underlying42 h
  rw [cells42] at hl
  match cs, hl with
  | [v0, v1, v2, v3, v4, v5], _ =>
    match xs, hlen with
    | [y0, y1, y2, y3, y4, y5], _ =>
      have t0 : DataW.trod enc Tryd.prog W 0 (fun _ => true) true m 38 [v0] = some y0 := by simpa [cells38] using hf 0 _ rfl
      have t1 : DataW.trod enc Tryd.prog W 0 (fun _ => true) true m 4 [v1] = some y1 := by simpa [cells4] using hf 1 _ rfl
      have t2 : DataW.trod enc Tryd.prog W 0 (fun _ => true) true m 3 [v2] = some y2 := by simpa [cells3] using hf 2 _ rfl
      have t3 : DataW.trod enc Tryd.prog W 0 (fun _ => true) true m 9 [v3] = some y3 := by simpa [cells9] using hf 3 _ rfl
      have t4 : DataW.trod enc Tryd.prog W 0 (fun _ => true) true m 39 [v4] = some y4 := by simpa [cells39] using hf 4 _ rfl
      have t5 : DataW.trod enc Tryd.prog W 0 (fun _ => true) true m 40 [v5] = some y5 := by simpa [cells40] using hf 5 _ rfl
      have hwe : ∀ k ∈ DataW.weightsEach Tryd.prog [38, 4, 3, 9, 39, 40] [y0.1, y1.1, y2.1, y3.1, y4.1, y5.1], k ≤ reachBytes := fun k hk => hw k (by
        simp only [DataW.weights, Tryd.underlying42]; exact hk)
      simp only [DataW.weightsEach, List.mem_append] at hwe
      obtain ⟨kd, e0, _, _⟩ := DataW.trod_int Tryd.underlying38 t0
      obtain ⟨tr, e1, _⟩ := DataW.trod_bool Tryd.underlying4 t1
      obtain ⟨nm, e2, _, w2⟩ := DataW.trod_int Tryd.underlying3 t2
      obtain ⟨s, e3, ey3, _⟩ := DataW.trod_string Tryd.underlying9 t3
      obtain ⟨ns, hns, hnl, hnt⟩ := open_names t4 (fun k hk => hwe k (.inr (.inr (.inr (.inr (.inl hk))))))
      obtain ⟨ks, hks, hkl⟩ := open_kids t5 (fun k hk => hwe k (.inr (.inr (.inr (.inr (.inr (.inl hk)))))))
      cases e0; cases e1; cases e2; cases e3
      refine ⟨{ kind := kd, truth := tr, num := nm, text := s.data.toList, names := ns, kids := ks }, v4, v5, ?_, ⟨hns, hks⟩, ⟨?_, hnt, bounds_i64 w2, hnl, hkl⟩⟩
      · simp [aggI]
      · refine hwe _ (.inr (.inr (.inr (.inl ?_))))
        rw [ey3]; simp [DataW.weights]
theorem open_tree {a : Option Addr} {len cap : Nat} {d : DataW H} {p : List MemPlace} (h : DataW.Trod enc Tryd.prog W 0 (fun _ => true) true 23 (.slice a len cap) d p) (hw : ∀ k ∈ d.weights Tryd.prog 23, k ≤ reachBytes) :
    ∃ T : List VI, T.length = len ∧ TreeAt W (.slice a len cap) T ∧ ∀ x ∈ T, InV x := by
  obtain ⟨fuel, hf⟩ := h
  rcases open_slice Tryd.underlying23 hf with ⟨hcs, _⟩ | ⟨ad, l, c, m, n, D, Pl, hcs, _, hl, hm, hz, hx, hcell⟩
  · simp [Value.cells] at hcs
    obtain ⟨rfl, rfl, rfl⟩ := hcs
    exact ⟨[], rfl, ⟨none, 0, rfl, by simp, fun i x h => by simp at h⟩, fun x h => by simp at h⟩
  · simp [Value.cells] at hcs
    obtain ⟨rfl, rfl, rfl⟩ := hcs
    simp only [if_true] at hz
    unfold maxLen at hm
    have hd : d = .slice ((List.range len).map D) ((List.range (m - len)).map fun j => D (len + j)) := congrArg Prod.fst hx
    have hval : ∀ i, i < len → ∃ (x : VI) (nv kv : Value), VAt W x nv kv ∧ InV x ∧ ∃ g o, ad = ⟨g, o, none⟩ ∧ ∀ (j : Nat) (u : Value), (aggI x nv kv)[j]? = some u → W.cell? ⟨g, o + i * 6 + j, none⟩ = some u := fun i hi => by
      obtain ⟨cs', h1, h2⟩ := hcell i (by omega)
      rw [cells42] at h1
      obtain ⟨x, nv, kv, rfl, hv, hi2⟩ := open_value h2 (fun k hk => hw k (by
        rw [hd]
        simp only [DataW.weights, Tryd.underlying23]
        exact List.mem_cons.2 (.inr (List.mem_append.2 (.inl (mem_weightsAll (List.mem_map.2 ⟨i, List.mem_range.2 hi, rfl⟩) hk))))))
      obtain ⟨_, hlen, hget⟩ := World.cells?_some h1
      obtain ⟨g, o, spot⟩ := ad
      have hspot : spot = none := by
        obtain ⟨cs0, k1, _⟩ := hcell 0 (by omega)
        rw [cells42] at k1
        obtain ⟨_, hl0, hg0⟩ := World.cells?_some k1
        have e0 := hg0 0 (by omega)
        match cs0, hl0 with
        | u0 :: _, _ => simpa [Addr.add] using World.cell?_spot (e0.trans rfl)
      subst hspot
      refine ⟨x, nv, kv, hv, hi2, g, o, rfl, fun j u hu => ?_⟩
      have hj : j < 6 := agg_lt hu
      have e := hget j (by simpa [aggI] using hj)
      have ea : ((⟨g, o, none⟩ : Addr).add (i * 6)).add j = ⟨g, o + i * 6 + j, none⟩ := by
        have aux : ∀ (o k : Nat), (⟨g, o, none⟩ : Addr).add k = ⟨g, o + k, none⟩ := fun o k => by
          unfold Addr.add
          split
          · rename_i h; subst h; rfl
          · rfl
        rw [aux, aux]
      rw [ea] at e
      rw [e]; exact hu
    have hch : ∃ F : Nat → VI, ∀ i, i < len → ∃ (nv kv : Value), VAt W (F i) nv kv ∧ InV (F i) ∧ ∃ g o, ad = ⟨g, o, none⟩ ∧ ∀ (j : Nat) (u : Value), (aggI (F i) nv kv)[j]? = some u → W.cell? ⟨g, o + i * 6 + j, none⟩ = some u :=
      ⟨fun i => if h : i < len then (hval i h).choose else {}, fun i hi => by simp only [dif_pos hi]; exact (hval i hi).choose_spec⟩
    obtain ⟨F, hF⟩ := hch
    have hget : ∀ i x, ((List.range len).map F)[i]? = some x → i < len ∧ x = F i := fun i x hx => by
      have hi := (List.getElem?_eq_some_iff.1 hx).1
      simp at hi
      rw [List.getElem?_map, List.getElem?_range hi] at hx
      simp at hx
      exact ⟨hi, hx.symm⟩
    refine ⟨(List.range len).map F, by simp, ⟨some ad, cap, by simp, by simp; omega, fun i x hx => ?_⟩, fun x hx => ?_⟩
    · obtain ⟨hi, rfl⟩ := hget i x hx
      obtain ⟨nv, kv, hv, _, g, o, rfl, hc⟩ := hF i hi
      exact ⟨g, o, nv, kv, rfl, hv, hc⟩
    · obtain ⟨i, hi, rfl⟩ := List.mem_map.1 hx
      obtain ⟨_, _, _, h2, _⟩ := hF i (List.mem_range.1 hi)
      exact h2
end
end Go.Proofs.YtpffhckimilppaaDoor
