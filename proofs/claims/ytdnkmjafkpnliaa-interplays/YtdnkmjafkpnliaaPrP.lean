/-
  One visit more behind a row, and where the row lies then; what stands in a list behind Pair.
-/
import Derived.Test.YtdnkmjafkpnliaaPrB
import Derived.Lib.AppendZeros
namespace Go.Proofs.Ytdnkmjafkpnliaa
open Go.RowKit Go.Lib

/-- An append that finds room stays in its row; else all that was there stays as it was. -/
theorem append_where {w : World} {t ty e : TypeId} {i : TypeInfo} {z : Value} (ht : Try.prog.underlying t = some (.slice e)) (hi : Try.prog.info? e = some i) (hz : i.zero = some z) {base n m c : Nat} {v : Value} {xs news : List Value} (hown : w.ownsRow base e i.size v n xs)
    {ad : Addr} (hl : news.length = m * i.size) (hnews : ∀ j u, news[j]? = some u → w.cell? (ad.add j) = some u) (h1 : ∀ u ∈ news, u.oneCell' = true) (hm : 0 < m) (h63 : n + m ≤ maxLen) (hbytes : (n + m) * i.bytes ≤ 140737488355328) {v' : Value} {w' : World}
    (hr : (Builtin.append_ #[t, t] ty #[v, .slice (some ad) m c]).run Try.prog w = .ok v' w') : v'.ownBlock = v.ownBlock ∨ (v'.ownBlock = some w.heap.size ∧ w.grownBy w' none) := by
  have hsmall : n + m ≤ 9223372036854775807 := by simp only [maxLen] at h63; omega
  have far : ∀ (o : Obj), w.grownBy (w.drew.alloc o) none := fun o => ⟨rfl, rfl, rfl, by simp, fun k hk _ => Below.heap_alloc w.drew _ k hk⟩
  rcases hown.2 with ⟨rfl, rfl⟩ | ⟨g, cap, cur, rfl, _, hg, hnc, hcm, hcs, htake⟩
  · rw [Nat.zero_add] at hbytes
    have hr2 := run_append_nil (P := Try.prog) w t ty e i z ht hi hz ad m c news hl hnews hm (by omega) (by omega)
    rw [hr2] at hr
    injection hr with h2 h3
    subst h2 h3
    exact .inr ⟨rfl, far _⟩
  · by_cases hroom : n + m ≤ cap
    · have hfit : n * i.size + news.length ≤ cur.size := by rw [hl, hcs, ← Nat.add_mul]; exact Nat.mul_le_mul_right _ hroom
      have hr2 := run_append_room (P := Try.prog) w t ty e i ht hi g n cap cur hg ad m c news hl hnews h1 hroom hfit
      rw [hr2] at hr
      injection hr with h2 h3
      subst h2
      exact .inl rfl
    · have holds : ∀ j u, xs[j]? = some u → w.cell? ((⟨g, 0, none⟩ : Addr).add j) = some u := hown.cells (g := g) rfl
      have hr2 := run_append_grow (P := Try.prog) w t ty e i z ht hi hz ⟨g, 0, none⟩ n cap xs hown.1 holds ad m c news hl hnews (by omega) (by omega) (growslice_fits (by omega) hbytes)
      rw [hr2] at hr
      injection hr with h2 h3
      subst h2 h3
      exact .inr ⟨rfl, far _⟩
/-- One visit more behind a row. -/
theorem app_one {w : World} {base k vc B : Nat} {va : Option Addr} {L : List Vst} {u : Vst} {ops : Array Oper} {rest : List Oper} {o : Oper} {a : Act} {Q : Exit → Act → World → Prop} (s x : Operand) (hgd : o.guard = none)
    (ho : o.op = .call { callee := .builtin .append, args := #[s, x], argTypes := #[22, 22] })
    (hs : a.eval s = .slice va k vc) (hx : a.eval x = .slice (some ⟨B, 0, none⟩) 1 1) (hblk : w.heap[B]? = some (.cells #[.int .i64 u.1, .int .i64 u.2] 58)) (hrow : VRow w base (.slice va k vc) L) (hk : L.length = k) (hkm : k ≤ 900) (hb : base ≤ w.heap.size)
    (h : ∀ g' cap' w', VRow w' base (.slice (some ⟨g', 0, none⟩) (k + 1) cap') (L ++ [u]) → w.grownBy w' (Value.ownBlock (.slice va k vc)) → (some g' = Value.ownBlock (.slice va k vc) ∨ g' = w.heap.size) → wpList Try.prog ops Q rest (a.put o.dst (.slice (some ⟨g', 0, none⟩) (k + 1) cap')) w') : wpList Try.prog ops Q (o :: rest) a w := by
  obtain ⟨i0, hi0, hy0, hy1, hy2⟩ := info_parts info34
  have hown : w.ownsRow base 58 2 (.slice va k vc) k (flatV L) := by have := hrow; unfold VRow at this; rw [hk] at this; exact this
  have hl : (encV u).length = 1 * 2 := rfl
  have h1 : ∀ q ∈ encV u, q.oneCell' = true := fun q hq => by simp [encV] at hq; rcases hq with rfl | rfl <;> rfl
  obtain ⟨v', w', hr, r1, r2, _, _⟩ := run_append_own_at (P := Try.prog) w base 22 o.type 58 i0 _ 2 16 Try.underlying22 hi0 hy0 hy1 hy2 rfl (by decide) _ k _ hown ⟨B, 0, none⟩ 1 1 (encV u) hl (one_cells hblk) h1 (by unfold maxLen; omega) (by omega) hb
  have hwhere := append_where (w := w) (ty := o.type) (c := 1) Try.underlying22 hi0 hy0 (base := base) (by rw [hy1]; exact hown) (by rw [hy1]; exact hl) (one_cells hblk) h1 (by decide) (by unfold maxLen; omega) (by rw [hy2]; omega) hr
  have hv' : ∃ g' cap', v' = .slice (some ⟨g', 0, none⟩) (k + 1) cap' := by
    rcases r1.2 with ⟨_, e2⟩ | ⟨g', cap', cur, e1, _⟩
    · omega
    · exact ⟨g', cap', e1⟩
  obtain ⟨g', cap', rfl⟩ := hv'
  refine wpList_append_run w hgd s x 22 22 ho _ _ hs hx _ _ hr (h g' cap' w' ?_ r2 ?_)
  · unfold VRow
    rw [List.length_append, hk, ← flatV_app]
    exact r1
  · rcases hwhere with e1 | ⟨e1, _⟩
    · exact .inl e1
    · exact .inr (by injection e1)
theorem ins_get_lt {L : List Vst} {i x : Nat} {v : Vst} (h : x < i) (hi : i ≤ L.length) : (insM L i v)[x]? = L[x]? := by
  unfold insM
  rw [List.getElem?_append_left (by rw [List.length_take]; omega), List.getElem?_take_of_lt h]
theorem ins_get_eq {L : List Vst} {i : Nat} {v : Vst} (hi : i ≤ L.length) : (insM L i v)[i]? = some v := by
  unfold insM
  rw [List.getElem?_append_right (by rw [List.length_take]; omega), List.length_take, Nat.min_eq_left hi, Nat.sub_self]
  rfl
theorem ins_get_gt {L : List Vst} {i x : Nat} {v : Vst} (h : i < x) (hi : i ≤ L.length) : (insM L i v)[x]? = L[x - 1]? := by
  unfold insM
  rw [List.getElem?_append_right (by rw [List.length_take]; omega), List.length_take, Nat.min_eq_left hi, show x - i = (x - 1 - i) + 1 by omega, List.getElem?_cons_succ, List.getElem?_drop, show i + (x - 1 - i) = x - 1 by omega]
/-- How many of the first q places are neither j nor k. -/
def cqN (j k q : Nat) : Nat := q - (if j < q then 1 else 0) - (if k < q then 1 else 0)
theorem cq_get {O : List Vst} {j k q : Nat} {p d : Vst} (hjk : j < k) (hk : k ≤ O.length + 1) (h1 : q ≠ j) (h2 : q ≠ k) : (insM (insM O j p) k d)[q]? = O[cqN j k q]? := by
  have hl : (insM O j p).length = O.length + 1 := insM_len (by omega) p
  unfold cqN
  rcases Nat.lt_trichotomy q k with a | a | a
  · rw [ins_get_lt a (by omega), if_neg (show ¬ k < q by omega)]
    rcases Nat.lt_trichotomy q j with b | b | b
    · rw [ins_get_lt b (by omega), if_neg (by omega)]; rfl
    · exact absurd b h1
    · rw [ins_get_gt b (by omega), if_pos b]; rfl
  · exact absurd a h2
  · rw [ins_get_gt a (by omega), ins_get_gt (by omega) (by omega), if_pos (show j < q by omega), if_pos a]
theorem cq_same {j k q : Nat} (hjk : j < k) (h : q = j ∨ q = k) : cqN j k (q + 1) = cqN j k q := by
  unfold cqN
  rcases h with rfl | rfl
  · rw [if_pos (by omega), if_neg (by omega), if_neg (by omega), if_neg (by omega)]; omega
  · rw [if_pos (by omega), if_pos (by omega), if_pos (by omega), if_neg (by omega)]; omega
theorem cq_next {j k q : Nat} (hjk : j < k) (h1 : q ≠ j) (h2 : q ≠ k) : cqN j k (q + 1) = cqN j k q + 1 := by
  unfold cqN
  by_cases a : j < q <;> by_cases b : k < q
  · rw [if_pos (by omega), if_pos (by omega), if_pos a, if_pos b]; omega
  · rw [if_pos (by omega), if_neg (by omega), if_pos a, if_neg b]; omega
  · omega
  · rw [if_neg (by omega), if_neg (by omega), if_neg a, if_neg b]; omega
theorem pair_true {V G : List Vst} {i j k : Int} (h : pairM V i j k = (G, true)) : ∃ (ii jj kk : Nat) (kd it : Int), i = ii ∧ j = jj ∧ k = kk ∧ jj < kk ∧ kk < V.length ∧ V[ii]? = some (kd, it) ∧ G = insM (insM (oth it V) jj (2, it)) kk (3, it) ∧ (oth it V).length + 2 = V.length := by
  unfold pairM at h
  cases hb1 : witB i ((V.length : Int) - 1) with
  | false => rw [hb1] at h; simp at h
  | true =>
    cases hb2 : riseB V.length j k with
    | false => rw [hb1, hb2] at h; simp at h
    | true =>
      rw [hb1, hb2, Bool.and_self, if_pos rfl] at h
      have q1 := wit_ok hb1
      obtain ⟨jj, kk, rfl, rfl, hjk, hkn⟩ := rise_ok hb2
      obtain ⟨ii, rfl⟩ : ∃ a : Nat, i = a := ⟨i.toNat, by omega⟩
      rw [Int.toNat_natCast] at h
      obtain ⟨⟨kd, it⟩, hu⟩ : ∃ u, V[ii]? = some u := ⟨_, List.getElem?_eq_getElem (by omega)⟩
      have hgd : V.getD ii (0, 0) = (kd, it) := by rw [List.getD_eq_getElem?_getD, hu]; rfl
      rw [hgd] at h
      split at h
      · rename_i hc
        injection h with h _
        have ho := oth_len it V
        rw [hc.2.1, hc.2.2] at ho
        exact ⟨ii, jj, kk, kd, it, rfl, rfl, rfl, hjk, hkn, hu, by rw [← h]; rfl, by omega⟩
      · injection h with _ h
        cases h
theorem pair_false {V G : List Vst} {i j k : Int} (h : pairM V i j k = (G, false)) : G = V := by
  unfold pairM at h
  split at h
  · split at h
    · injection h with _ h
      cases h
    · injection h with h _
      exact h.symm
  · injection h with h _
    exact h.symm
end Go.Proofs.Ytdnkmjafkpnliaa
