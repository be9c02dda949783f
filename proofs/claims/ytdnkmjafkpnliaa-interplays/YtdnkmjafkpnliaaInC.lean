/-
  What the document's Inner answers: change 4.
-/
import Derived.Test.YtdnkmjafkpnliaaInA
import Derived.Deep.AppendLies
import Derived.Deep.RegionHeld3
namespace Go.Proofs.Ytdnkmjafkpnliaa
open Go.RowKit

/-- What the document puts where the x-th stands. -/
def mixP (V : List Vst) (a b x : Nat) : List Vst := if x = a then [V.getD b (0, 0), V.getD (b + 1) (0, 0)] else if x = b then [V.getD a (0, 0)] else if x = b + 1 then [] else [V.getD x (0, 0)]
def mixL (V : List Vst) (a b x : Nat) : List Vst := (List.range x).flatMap (mixP V a b)
theorem mix_step (V : List Vst) (a b x : Nat) : mixL V a b (x + 1) = mixL V a b x ++ mixP V a b x := by
  unfold mixL
  rw [List.range_succ, List.flatMap_append]
  simp
theorem mix_le (V : List Vst) (a b : Nat) : ∀ x, (mixL V a b x).length ≤ x + x
  | 0 => Nat.le_refl _
  | x + 1 => by
    have ih := mix_le V a b x
    rw [mix_step, List.length_append]
    have h2 : (mixP V a b x).length ≤ 2 := by
      unfold mixP
      split
      · exact Nat.le_refl _
      · split
        · exact Nat.le_succ _
        · split
          · exact Nat.zero_le _
          · exact Nat.le_succ _
    omega
theorem rng_app : ∀ (m s n : Nat), List.range' s (m + n) = List.range' s m ++ List.range' (s + m) n
  | 0, s, n => by simp
  | m + 1, s, n => by
    rw [show m + 1 + n = (m + n) + 1 by omega, List.range'_succ, List.range'_succ, rng_app m (s + 1) n, List.cons_append, show s + 1 + m = s + (m + 1) by omega]
theorem seg {V : List Vst} {f : Nat → List Vst} : ∀ (l s : Nat), (∀ x, s ≤ x → x < s + l → f x = [V.getD x (0, 0)]) → s + l ≤ V.length → (List.range' s l).flatMap f = (V.drop s).take l
  | 0, s, _, _ => by simp
  | l + 1, s, h, hl => by
    have hs : s < V.length := by omega
    rw [List.range'_succ, List.flatMap_cons, seg l (s + 1) (fun x h1 h2 => h x (by omega) (by omega)) (by omega), h s (Nat.le_refl _) (by omega), List.drop_eq_getElem_cons hs, List.take_succ_cons]
    simp [hs]
theorem two_get {V : List Vst} {b : Nat} (h : b + 1 < V.length) : (V.drop b).take 2 = [V.getD b (0, 0), V.getD (b + 1) (0, 0)] := by
  have e := seg (V := V) (f := fun x => [V.getD x (0, 0)]) 2 b (fun _ _ _ => rfl) (by omega)
  rw [← e]
  rfl
theorem one_get {V : List Vst} {a : Nat} (h : a < V.length) : (V.drop a).take 1 = [V.getD a (0, 0)] := by
  have e := seg (V := V) (f := fun x => [V.getD x (0, 0)]) 1 a (fun _ _ _ => rfl) (by omega)
  rw [← e]
  rfl
theorem mix_doc {V : List Vst} {a b : Nat} (h1 : a ≠ b) (h2 : a ≠ b + 1) (ha : a < V.length) (hb : b + 1 < V.length) : mixL V a b V.length = if (a : Int) < (b : Int) then swapM V a (a + 1) b (b + 2) else swapM V b (b + 2) a (a + 1) := by
  have fo : ∀ x, x ≠ a → x ≠ b → x ≠ b + 1 → mixP V a b x = [V.getD x (0, 0)] := fun x e1 e2 e3 => by unfold mixP; rw [if_neg e1, if_neg e2, if_neg e3]
  have fa : mixP V a b a = (V.drop b).take 2 := by rw [two_get hb]; unfold mixP; rw [if_pos rfl]
  have fb : mixP V a b b = (V.drop a).take 1 := by rw [one_get ha]; unfold mixP; rw [if_neg (fun e => h1 e.symm), if_pos rfl]
  have fc : mixP V a b (b + 1) = [] := by unfold mixP; rw [if_neg (fun e => h2 e.symm), if_neg (by omega), if_pos rfl]
  unfold mixL
  rw [List.range_eq_range']
  by_cases hlt : a < b
  · rw [if_pos (by omega)]
    obtain ⟨l, hl⟩ : ∃ l, b = a + 1 + l := ⟨b - a - 1, by omega⟩
    obtain ⟨r, hr⟩ : ∃ r, V.length = a + (1 + (l + (2 + r))) := ⟨V.length - b - 2, by omega⟩
    have s1 := seg (V := V) (f := mixP V a b) a 0 (fun x _ h => fo x (by omega) (by omega) (by omega)) (by omega)
    have s2 := seg (V := V) (f := mixP V a b) l (a + 1) (fun x _ h => fo x (by omega) (by omega) (by omega)) (by omega)
    have s3 := seg (V := V) (f := mixP V a b) r (b + 2) (fun x _ h => fo x (by omega) (by omega) (by omega)) (by omega)
    rw [hr, rng_app, rng_app, rng_app, rng_app, List.flatMap_append, List.flatMap_append, List.flatMap_append, List.flatMap_append, Nat.zero_add, ← hl, s1, s2, s3]
    have e1 : (List.range' a 1).flatMap (mixP V a b) = (V.drop b).take 2 := by rw [show List.range' a 1 = [a] from rfl, List.flatMap_cons, List.flatMap_nil, List.append_nil, fa]
    have e2 : (List.range' b 2).flatMap (mixP V a b) = (V.drop a).take 1 := by rw [show List.range' b 2 = [b, b + 1] from rfl, List.flatMap_cons, List.flatMap_cons, List.flatMap_nil, fb, fc, List.append_nil, List.append_nil]
    rw [e1, e2, List.drop_zero, List.take_of_length_le (l := V.drop (b + 2)) (by rw [List.length_drop]; omega)]
    unfold swapM
    rw [show b + 2 - b = 2 by omega, show b - (a + 1) = l by omega, show a + 1 - a = 1 by omega]
  · rw [if_neg (by omega)]
    obtain ⟨l, hl⟩ : ∃ l, a = b + 2 + l := ⟨a - b - 2, by omega⟩
    obtain ⟨r, hr⟩ : ∃ r, V.length = b + (2 + (l + (1 + r))) := ⟨V.length - a - 1, by omega⟩
    have s1 := seg (V := V) (f := mixP V a b) b 0 (fun x _ h => fo x (by omega) (by omega) (by omega)) (by omega)
    have s2 := seg (V := V) (f := mixP V a b) l (b + 2) (fun x _ h => fo x (by omega) (by omega) (by omega)) (by omega)
    have s3 := seg (V := V) (f := mixP V a b) r (a + 1) (fun x _ h => fo x (by omega) (by omega) (by omega)) (by omega)
    rw [hr, rng_app, rng_app, rng_app, rng_app, List.flatMap_append, List.flatMap_append, List.flatMap_append, List.flatMap_append, Nat.zero_add, ← hl, s1, s2, s3]
    have e1 : (List.range' a 1).flatMap (mixP V a b) = (V.drop b).take 2 := by rw [show List.range' a 1 = [a] from rfl, List.flatMap_cons, List.flatMap_nil, List.append_nil, fa]
    have e2 : (List.range' b 2).flatMap (mixP V a b) = (V.drop a).take 1 := by rw [show List.range' b 2 = [b, b + 1] from rfl, List.flatMap_cons, List.flatMap_cons, List.flatMap_nil, fb, fc, List.append_nil, List.append_nil]
    rw [e1, e2, List.drop_zero, List.take_of_length_le (l := V.drop (a + 1)) (by rw [List.length_drop]; omega)]
    unfold swapM
    rw [show b + 2 - b = 2 by omega, show a - (b + 2) = l by omega, show a + 1 - a = 1 by omega]
/-- Two visits more behind a row, at a step of a drawn region. -/
theorem step_two {w : World} {base k vc B : Nat} {va : Option Addr} {L : List Vst} {u v : Vst} {ops : Array Oper} {o : Oper} {a : Act} {K : Act → World → Prop} {Q : Exit → Act → World → Prop} {E : Prop} (s x : Operand) (hgd : o.guard = none)
    (ho : o.op = .call { callee := .builtin .append, args := #[s, x], argTypes := #[22, 22] })
    (hs : a.eval s = .slice va k vc) (hx : a.eval x = .slice (some ⟨B, 0, none⟩) 2 2) (hblk : w.heap[B]? = some (.cells #[.int .i64 u.1, .int .i64 u.2, .int .i64 v.1, .int .i64 v.2] 58)) (hrow : VRow w base (.slice va k vc) L) (hk : L.length = k) (hkm : k ≤ 900) (hb : base ≤ w.heap.size)
    (h : ∀ g' cap' w', VRow w' base (.slice (some ⟨g', 0, none⟩) (k + 2) cap') (L ++ [u, v]) → w.grownBy w' (Value.ownBlock (.slice va k vc)) → K (a.put o.dst (.slice (some ⟨g', 0, none⟩) (k + 2) cap')) w') : if Region.wanted o (yielded ops a.tmps) = true then Oper.wp Try.prog o a w K Q else E := by
  obtain ⟨i0, hi0, hy0, hy1, hy2⟩ := info_parts info34
  have hown : w.ownsRow base 58 2 (.slice va k vc) k (flatV L) := by have := hrow; unfold VRow at this; rw [hk] at this; exact this
  refine step_append_lies w hgd s x 22 ho base 58 i0 _ 2 16 Try.underlying22 hi0 hy0 hy1 hy2 rfl (by decide) _ k _ hs hown ⟨B, 0, none⟩ 2 2 (flatV [u, v]) hx rfl (fun j q hq => ?_) (flatV_one _) (by decide) (by unfold maxLen; omega) (by omega) hb _ rfl ?_
  · rw [add0, cell_of_row _ _ _ _ _ _ hblk]
    show ([Value.int .i64 u.1, .int .i64 u.2, .int .i64 v.1, .int .i64 v.2] : List Value).toArray[j]? = some q
    rw [List.getElem?_toArray]
    exact hq
  · intro g cap w' r1 r2 _ _
    refine h g cap w' ?_ r2
    unfold VRow
    rw [List.length_append, hk, ← flatV_app]
    exact r1
set_option maxRecDepth 100000 in
set_option maxHeartbeats 12800000 in
theorem inner_mix {w : World} {va : Option Addr} {n vc : Nat} {V : List Vst} (h : SlI w va n vc V) (hn : n ≤ 300) (i j k : Int) : Calls Try.prog 15 #[.slice va n vc, .int .i64 4, .int .i64 i, .int .i64 j, .int .i64 k] w (DIn w (mixM V i j) n) := by
  have H := hide h
  have KZ : Hid (Below w.heap.size w w) := Below.refl _ _
  clear h
  rcases (show i < 0 ∨ (n : Int) ≤ i ∨ (0 ≤ i ∧ i < (n : Int)) by omega) with hi | hi | hi
  · have HR : Hid (mixM V i j = (V, false)) := by show _ = _; unfold mixM; rw [H.out.len, if_neg (by omega)]
    have fi0 : i < 0 := by omega
    have fi1 : ¬ 0 ≤ i := by omega
    clear hi
    go_enter Try.func15, Try.ntmps15
    go_wp2_with (first | (go_at_call 39; (with_reducible refine (copiedV_any H.out.vs H.out.len (by omega) H.out.nz).mono ?_); rintro e x1 ⟨y1, d1, rfl, r1, k1⟩; have RX := hide r1.1; have KX := hide k1; clear r1 k1) | fail)
    go_ret2
    exact din_no HR.out RX.out KX.out
  · have HR : Hid (mixM V i j = (V, false)) := by show _ = _; unfold mixM; rw [H.out.len, if_neg (by omega)]
    have fi0 : 0 ≤ i := by omega
    have fi1 : ¬ i < (n : Int) := by omega
    have fi2 : (n : Int) ≤ i := by omega
    have fi3 : ¬ i < 0 := by omega
    clear hi
    go_enter Try.func15, Try.ntmps15
    go_wp2_with (first | (go_at_call 39; (with_reducible refine (copiedV_any H.out.vs H.out.len (by omega) H.out.nz).mono ?_); rintro e x1 ⟨y1, d1, rfl, r1, k1⟩; have RX := hide r1.1; have KX := hide k1; clear r1 k1) | fail)
    go_ret2
    exact din_no HR.out RX.out KX.out
  · rcases (show j < 0 ∨ (n : Int) ≤ j ∨ (0 ≤ j ∧ j < (n : Int)) by omega) with hj | hj | hj
    · have HR : Hid (mixM V i j = (V, false)) := by show _ = _; unfold mixM; rw [H.out.len, if_neg (by omega)]
      have fi0 : 0 ≤ i := by omega
      have fi1 : i < (n : Int) := by omega
      have fi2 : ¬ (n : Int) ≤ i := by omega
      have fi3 : ¬ i < 0 := by omega
      have fj0 : j < 0 := by omega
      have fj1 : ¬ 0 ≤ j := by omega
      clear hi hj
      go_enter Try.func15, Try.ntmps15
      go_wp2_with (first | (go_at_call 39; (with_reducible refine (copiedV_any H.out.vs H.out.len (by omega) H.out.nz).mono ?_); rintro e x1 ⟨y1, d1, rfl, r1, k1⟩; have RX := hide r1.1; have KX := hide k1; clear r1 k1) | fail)
      go_ret2
      exact din_no HR.out RX.out KX.out
    · have HR : Hid (mixM V i j = (V, false)) := by show _ = _; unfold mixM; rw [H.out.len, if_neg (by omega)]
      have fi0 : 0 ≤ i := by omega
      have fi1 : i < (n : Int) := by omega
      have fi2 : ¬ (n : Int) ≤ i := by omega
      have fi3 : ¬ i < 0 := by omega
      have fj0 : 0 ≤ j := by omega
      have fj1 : ¬ j < (n : Int) := by omega
      have fj2 : (n : Int) ≤ j := by omega
      have fj3 : ¬ j < 0 := by omega
      clear hi hj
      go_enter Try.func15, Try.ntmps15
      go_wp2_with (first | (go_at_call 39; (with_reducible refine (copiedV_any H.out.vs H.out.len (by omega) H.out.nz).mono ?_); rintro e x1 ⟨y1, d1, rfl, r1, k1⟩; have RX := hide r1.1; have KX := hide k1; clear r1 k1) | fail)
      go_ret2
      exact din_no HR.out RX.out KX.out
    · by_cases hc1 : j < (n : Int) - 1
      · by_cases hc2 : i = j
        · have HR : Hid (mixM V i j = (V, false)) := by show _ = _; unfold mixM; rw [H.out.len, if_neg (by omega)]
          have fi0 : 0 ≤ i := by omega
          have fi1 : i < (n : Int) := by omega
          have fi2 : ¬ (n : Int) ≤ i := by omega
          have fi3 : ¬ i < 0 := by omega
          have fj0 : 0 ≤ j := by omega
          have fj1 : j < (n : Int) := by omega
          have fj2 : ¬ (n : Int) ≤ j := by omega
          have fj3 : ¬ j < 0 := by omega
          have u1 : IntKind.i64.wrap ((n : Int) - 1) = (n : Int) - 1 := by rw [IntKind.wrap_i64]; omega
          have y1 : (i != j) = false := by simpa using hc2
          clear hi hj hc2
          go_enter Try.func15, Try.ntmps15
          go_wp2_with (first | (go_at_call 39; (with_reducible refine (copiedV_any H.out.vs H.out.len (by omega) H.out.nz).mono ?_); rintro e x1 ⟨y1, d1, rfl, r1, k1⟩; have RX := hide r1.1; have KX := hide k1; clear r1 k1) | fail)
          go_ret2
          exact din_no HR.out RX.out KX.out
        · by_cases hc3 : i = j + 1
          · have HR : Hid (mixM V i j = (V, false)) := by show _ = _; unfold mixM; rw [H.out.len, if_neg (by omega)]
            have fi0 : 0 ≤ i := by omega
            have fi1 : i < (n : Int) := by omega
            have fi2 : ¬ (n : Int) ≤ i := by omega
            have fi3 : ¬ i < 0 := by omega
            have fj0 : 0 ≤ j := by omega
            have fj1 : j < (n : Int) := by omega
            have fj2 : ¬ (n : Int) ≤ j := by omega
            have fj3 : ¬ j < 0 := by omega
            have u1 : IntKind.i64.wrap ((n : Int) - 1) = (n : Int) - 1 := by rw [IntKind.wrap_i64]; omega
            have u2 : IntKind.i64.wrap (j + 1) = j + 1 := by rw [IntKind.wrap_i64]; omega
            have y1 : (i != j) = true := by simpa using hc2
            have y2 : (i != j + 1) = false := by simpa using hc3
            clear hi hj hc2 hc3
            go_enter Try.func15, Try.ntmps15
            go_wp2_with (first | (go_at_call 39; (with_reducible refine (copiedV_any H.out.vs H.out.len (by omega) H.out.nz).mono ?_); rintro e x1 ⟨y1, d1, rfl, r1, k1⟩; have RX := hide r1.1; have KX := hide k1; clear r1 k1) | fail)
            go_ret2
            exact din_no HR.out RX.out KX.out
          · have fi0 : 0 ≤ i := by omega
            have fi1 : i < (n : Int) := by omega
            have fi2 : ¬ (n : Int) ≤ i := by omega
            have fi3 : ¬ i < 0 := by omega
            have fj0 : 0 ≤ j := by omega
            have fj1 : j < (n : Int) := by omega
            have fj2 : ¬ (n : Int) ≤ j := by omega
            have fj3 : ¬ j < 0 := by omega
            obtain ⟨a, ha⟩ : ∃ a : Nat, i = a := ⟨i.toNat, by omega⟩
            obtain ⟨b, hb⟩ : ∃ b : Nat, j = b := ⟨j.toNat, by omega⟩
            subst ha hb
            have hab : a ≠ b := by omega
            have hab2 : a ≠ b + 1 := by omega
            have hbn : b + 1 < n := by omega
            have han : a < n := by omega
            have HR : Hid (mixM V a b = (mixL V a b n, true)) := by
              show _ = _
              have h9 := mix_doc (V := V) hab hab2 (by rw [H.out.len]; exact han) (by rw [H.out.len]; exact hbn)
              rw [H.out.len] at h9
              unfold mixM
              rw [H.out.len, if_pos (by omega), h9]
              rfl
            have HRL : Hid ((mixL V a b n).length = n) := by
              show _ = _
              have h9 := mix_doc (V := V) hab hab2 (by rw [H.out.len]; exact han) (by rw [H.out.len]; exact hbn)
              rw [H.out.len] at h9
              rw [h9]
              split
              · rw [swapM_len (by omega) (by omega) (by omega) (by rw [H.out.len]; omega), H.out.len]
              · rw [swapM_len (by omega) (by omega) (by omega) (by rw [H.out.len]; omega), H.out.len]
            obtain ⟨⟨x1, x2⟩, hx⟩ : ∃ u, V[a]? = some u := ⟨_, List.getElem?_eq_getElem (by rw [H.out.len]; omega)⟩
            obtain ⟨⟨b1, b2⟩, hy⟩ : ∃ u, V[b]? = some u := ⟨_, List.getElem?_eq_getElem (by rw [H.out.len]; omega)⟩
            obtain ⟨⟨b3, b4⟩, hz⟩ : ∃ u, V[b + 1]? = some u := ⟨_, List.getElem?_eq_getElem (by rw [H.out.len]; omega)⟩
            have gx : V.getD a (0, 0) = (x1, x2) := by rw [List.getD_eq_getElem?_getD, hx]; rfl
            have gy : V.getD b (0, 0) = (b1, b2) := by rw [List.getD_eq_getElem?_getD, hy]; rfl
            have gz : V.getD (b + 1) (0, 0) = (b3, b4) := by rw [List.getD_eq_getElem?_getD, hz]; rfl
            obtain ⟨bb, off, hbb, hbl, cx1, cx2, -⟩ := vs_cells H.out.vs hx
            subst hbb
            obtain ⟨bb', off', hbb, -, cy1, cy2, -⟩ := vs_cells H.out.vs hy
            injection hbb with hbb
            injection hbb with e1 e2 _
            subst e1 e2
            obtain ⟨bb', off', hbb, -, cz1, cz2, -⟩ := vs_cells H.out.vs hz
            injection hbb with hbb
            injection hbb with e1 e2 _
            subst e1 e2
            simp only at cx1 cx2 cy1 cy2 cz1 cz2
            have HC : Hid (∀ W, Below w.heap.size w W → (W.cell? ⟨bb, off + a * 2, none⟩ = some (.int .i64 x1) ∧ W.cell? ⟨bb, off + a * 2 + 1, none⟩ = some (.int .i64 x2)) ∧ W.cell? ⟨bb, off + b * 2, none⟩ = some (.int .i64 b1) ∧ W.cell? ⟨bb, off + b * 2 + 1, none⟩ = some (.int .i64 b2) ∧ W.cell? ⟨bb, off + (b + 1) * 2, none⟩ = some (.int .i64 b3) ∧ W.cell? ⟨bb, off + (b + 1) * 2 + 1, none⟩ = some (.int .i64 b4)) := fun W hf => ⟨⟨((bcell hf).1 _ _ hbl).trans cx1, ((bcell hf).1 _ _ hbl).trans cx2⟩, ((bcell hf).1 _ _ hbl).trans cy1, ((bcell hf).1 _ _ hbl).trans cy2, ((bcell hf).1 _ _ hbl).trans cz1, ((bcell hf).1 _ _ hbl).trans cz2⟩
            have HPA : Hid (mixP V a b a = [(b1, b2), (b3, b4)]) := by show _ = _; unfold mixP; rw [if_pos rfl, gy, gz]
            have HPB : Hid (mixP V a b b = [(x1, x2)]) := by show _ = _; unfold mixP; rw [if_neg (fun e => hab e.symm), if_pos rfl, gx]
            have HPC : Hid (mixP V a b (b + 1) = []) := by show _ = _; unfold mixP; rw [if_neg (fun e => hab2 e.symm), if_neg (by omega), if_pos rfl]
            have u1 : IntKind.i64.wrap ((n : Int) - 1) = (n : Int) - 1 := by rw [IntKind.wrap_i64]; omega
            have u2 : IntKind.i64.wrap ((b : Int) + 1) = (b : Int) + 1 := by rw [IntKind.wrap_i64]; omega
            have v1 : ((a : Int) != (b : Int)) = true := by simp; omega
            have v2 : ((a : Int) != (b : Int) + 1) = true := by simp; omega
            have v3 : (b : Int) + 1 < (n : Int) := by omega
            have v4 : (0 : Int) ≤ (b : Int) + 1 := by omega
            have v5 : ¬ (n : Int) ≤ (b : Int) + 1 := by omega
            have v6 : ((b : Int) + 1).toNat = b + 1 := by omega
            have HAB := hide hab
            have HAB2 := hide hab2
            clear hx hy hz gx gy gz cx1 cx2 cy1 cy2 cz1 cz2 hi hj hab hab2
            go_enter Try.func15, Try.ntmps15
            go_wp2_with fail
            go_loopw [18, 17] (fun vi vo wr => ∃ (x r : Nat) (oa : Option Addr) (oc : Nat), vi = .int .i64 x ∧ vo = .slice oa r oc ∧ x ≤ n ∧ r ≤ x + x ∧ Hid ((mixL V a b x).length = r) ∧ Hid (VRow wr w.heap.size (.slice oa r oc) (mixL V a b x)) ∧ Hid (Below w.heap.size w wr)) (fun vi _ _ => n - (intOf vi).toNat)
            case atStart => exact ⟨0, 0, none, 0, rfl, rfl, Nat.zero_le _, Nat.le_refl _, rfl, World.ownsRow_nil _ _ 58 2, Below.refl _ _⟩
            case round =>
              obtain ⟨x, r, oa, oc, rfl, rfl, hxn, hrx, HLR, HRW, HB⟩ := hrel
              obtain ⟨⟨z1, z2⟩, z3, z4, z5, z6⟩ := HC.out _ HB.out
              by_cases hxm : x < n
              · have j1 : (x : Int) < (n : Int) := by omega
                have j2 : (0 : Int) ≤ (x : Int) := by omega
                have j4 : ¬ (n : Int) ≤ (x : Int) := by omega
                by_cases hxa : x = a
                · subst hxa
                  have y1 : ((x : Int) == (x : Int)) = true := by simp
                  go_wp2_with fail
                  first | (go_region_held3 (fun w' => w'.cell? ⟨bb, off + b * 2, none⟩ = some (.int .i64 b1) ∧ w'.cell? ⟨bb, off + b * 2 + 1, none⟩ = some (.int .i64 b2) ∧ w'.cell? ⟨bb, off + (b + 1) * 2, none⟩ = some (.int .i64 b3) ∧ w'.cell? ⟨bb, off + (b + 1) * 2 + 1, none⟩ = some (.int .i64 b4)) (go_keep) (first | (refine step_two (w := (wr.alloc (.cells #[.int .i64 b1, .int .i64 b2, .int .i64 b3, .int .i64 b4] 58)).drew) (u := (b1, b2)) (v := (b3, b4)) (.tmp 190) (.tmp 200) rfl rfl rfl rfl (heap_alloc_new wr _) (VRow.later (VRow.later HRW.out (Nat.le_refl _) ((Below.refl _ _).alloc (Nat.le_refl _) _)) (Nat.le_refl _) ((Below.refl _ _).drew)) HLR.out (by omega) (Nat.le_trans HB.out.size (by simp)) ?_; intro g1 d1 w7 s1 s2; have RA := hide s1; have E7 : Hid (Below w.heap.size w w7) := below_own (low_drew (low_alloc HB.out _)) HRW.out s2 (Nat.le_trans HB.out.size (by simp)); obtain ⟨-, y1, y2, y3, y4⟩ := HC.out _ E7.out; clear s1 s2) | fail)) | fail
                  rename_i hHeld
                  clear hHeld
                  go_wp2_with fail
                  go_roundw
                  case rel => exact ⟨x + 1, r + 2, some ⟨g1, 0, none⟩, d1, by go_num, rfl, by omega, by omega, by show _ = _; rw [mix_step, HPA.out, List.length_append, HLR.out]; rfl, by show VRow _ _ _ _; rw [mix_step, HPA.out]; exact RA.out, E7.out⟩
                  case measure => simp [intOf]; omega
                · have y1 : ((x : Int) == (a : Int)) = false := by simp; omega
                  by_cases hxb : x = b
                  · subst hxb
                    have y2 : ((x : Int) == (x : Int)) = true := by simp
                    go_wp2_with (first | (at_builtin; refine app_one (w := wr.alloc (.cells #[.int .i64 x1, .int .i64 x2] 58)) (u := (x1, x2)) (.tmp 206) (.tmp 211) rfl rfl rfl rfl (heap_alloc_new _ _) (VRow.later HRW.out (Nat.le_refl _) ((Below.refl _ _).alloc (Nat.le_refl _) _)) HLR.out (by omega) (Nat.le_trans HB.out.size (by simp)) ?_; intro g1 d1 w7 s1 s2 s3; have RA := hide s1; have E7 : Hid (Below w.heap.size w w7) := below_own (low_alloc HB.out _) HRW.out s2 (Nat.le_trans HB.out.size (by simp)); clear s1 s2 s3) | fail)
                    go_roundw
                    case rel => exact ⟨x + 1, r + 1, some ⟨g1, 0, none⟩, d1, by go_num, rfl, by omega, by omega, by show _ = _; rw [mix_step, HPB.out, List.length_append, HLR.out]; rfl, by show VRow _ _ _ _; rw [mix_step, HPB.out]; exact RA.out, E7.out⟩
                    case measure => simp [intOf]; omega
                  · have y2 : ((x : Int) == (b : Int)) = false := by simp; omega
                    by_cases hxc : x = b + 1
                    · have y3 : ((x : Int) != (b : Int) + 1) = false := by simp; omega
                      have HPX : Hid (mixP V a b x = []) := by show _ = _; rw [hxc]; exact HPC.out
                      clear hxc
                      go_wp2_with fail
                      go_roundw
                      case rel => exact ⟨x + 1, r, oa, oc, by go_num, rfl, by omega, by omega, by show _ = _; rw [mix_step, HPX.out, List.append_nil]; exact HLR.out, by show VRow _ _ _ _; rw [mix_step, HPX.out, List.append_nil]; exact HRW.out, HB.out⟩
                      case measure => simp [intOf]; omega
                    · have y3 : ((x : Int) != (b : Int) + 1) = true := by simp; omega
                      obtain ⟨⟨q1, q2⟩, hq⟩ : ∃ u, V[x]? = some u := ⟨_, List.getElem?_eq_getElem (by rw [H.out.len]; omega)⟩
                      have gq : V.getD x (0, 0) = (q1, q2) := by rw [List.getD_eq_getElem?_getD, hq]; rfl
                      have HPX : Hid (mixP V a b x = [(q1, q2)]) := by show _ = _; unfold mixP; rw [if_neg hxa, if_neg hxb, if_neg hxc, gq]
                      obtain ⟨bb', off', hbb, -, cq1, cq2, -⟩ := vs_cells H.out.vs hq
                      injection hbb with hbb
                      injection hbb with e1 e2 _
                      subst e1 e2
                      simp only at cq1 cq2
                      have z7 : wr.cell? ⟨bb, off + x * 2, none⟩ = some (.int .i64 q1) := ((bcell HB.out).1 _ _ hbl).trans cq1
                      have z8 : wr.cell? ⟨bb, off + x * 2 + 1, none⟩ = some (.int .i64 q2) := ((bcell HB.out).1 _ _ hbl).trans cq2
                      clear hq gq cq1 cq2 hxa hxb hxc
                      go_wp2_with (first | (at_builtin; refine app_one (w := wr.alloc (.cells #[.int .i64 q1, .int .i64 q2] 58)) (u := (q1, q2)) (.tmp 218) (.tmp 223) rfl rfl rfl rfl (heap_alloc_new _ _) (VRow.later HRW.out (Nat.le_refl _) ((Below.refl _ _).alloc (Nat.le_refl _) _)) HLR.out (by omega) (Nat.le_trans HB.out.size (by simp)) ?_; intro g1 d1 w7 s1 s2 s3; have RA := hide s1; have E7 : Hid (Below w.heap.size w w7) := below_own (low_alloc HB.out _) HRW.out s2 (Nat.le_trans HB.out.size (by simp)); clear s1 s2 s3) | fail)
                      go_roundw
                      case rel => exact ⟨x + 1, r + 1, some ⟨g1, 0, none⟩, d1, by go_num, rfl, by omega, by omega, by show _ = _; rw [mix_step, HPX.out, List.length_append, HLR.out]; rfl, by show VRow _ _ _ _; rw [mix_step, HPX.out]; exact RA.out, E7.out⟩
                      case measure => simp [intOf]; omega
              · have j1 : ¬ (x : Int) < (n : Int) := by omega
                have hxe : x = n := by omega
                subst hxe
                have hr9 : r = x := by rw [← HLR.out]; exact HRL.out
                subst hr9
                go_wp2_with fail
                go_ret2
                exact din_yes HR.out HRW.out HB.out
      · have HR : Hid (mixM V i j = (V, false)) := by show _ = _; unfold mixM; rw [H.out.len, if_neg (by omega)]
        have fi0 : 0 ≤ i := by omega
        have fi1 : i < (n : Int) := by omega
        have fi2 : ¬ (n : Int) ≤ i := by omega
        have fi3 : ¬ i < 0 := by omega
        have fj0 : 0 ≤ j := by omega
        have fj1 : j < (n : Int) := by omega
        have fj2 : ¬ (n : Int) ≤ j := by omega
        have fj3 : ¬ j < 0 := by omega
        have u1 : IntKind.i64.wrap ((n : Int) - 1) = (n : Int) - 1 := by rw [IntKind.wrap_i64]; omega
        have y0 : (n : Int) - 1 ≤ j := by omega
        clear hi hj
        go_enter Try.func15, Try.ntmps15
        go_wp2_with (first | (go_at_call 39; (with_reducible refine (copiedV_any H.out.vs H.out.len (by omega) H.out.nz).mono ?_); rintro e x1 ⟨y1, d1, rfl, r1, k1⟩; have RX := hide r1.1; have KX := hide k1; clear r1 k1) | fail)
        go_ret2
        exact din_no HR.out RX.out KX.out
end Go.Proofs.Ytdnkmjafkpnliaa
