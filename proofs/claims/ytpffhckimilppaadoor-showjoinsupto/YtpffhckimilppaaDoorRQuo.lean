/-
  What the document's quote and Quote do.
-/
import Derived.Test.YtpffhckimilppaaDoorUtf
import Derived.Test.YtpffhckimilppaaDoorWri
namespace Go.Proofs.YtpffhckimilppaaDoor
open Go.RowKit
set_option maxRecDepth 100000

/-- An append of bytes that lie in memory onto the row. -/
theorem app_mem {base : Nat} {w : World} {ops : Array Oper} {rest : List Oper} {o : Oper} {a : Act} {Q : Exit → Act → World → Prop} (s x : Operand) (l : List UInt8) {ad : Addr} {m c : Nat} {v : Value} {bs : List UInt8}
    (hgd : o.guard = none) (ho : o.op = .call { callee := .builtin .append, args := #[s, x], argTypes := #[30, 30] })
    (hs : a.eval s = v) (hx : a.eval x = .slice (some ad) m c) (hr : BRow w base v bs) (hbs : base ≤ w.heap.size) (hm : l.length = m) (hc : ∀ j u, (bytesV l)[j]? = some u → w.cell? (ad.add j) = some u) (hl : bs.length + m ≤ 140737488355328)
    (h : ∀ v' w', Step base w v bs w' v' l → wpList Tryd.prog ops Q rest (a.put o.dst v') w') : wpList Tryd.prog ops Q (o :: rest) a w := by
  obtain ⟨v', w', h1, h2⟩ := append_run (m := m) (c := c) o.type hr hbs hm hc hl
  refine wpList_plain hgd fun K hK => ?_
  unfold Oper.wp execOp
  simp only [ho, resolve, invoke, builtin, Sem.run_bind, Sem.run_pure, Result.andThen_ok, List.map_toArray, List.map_cons, List.map_nil, hs, hx, h1]
  exact hK _ _ (h v' w' h2)
theorem dec_ascii (l : List UInt8) (p : Nat) (hp : p < l.length) (h : byteAt l p < 128) : decAt l p = (byteAt l p, 1) := by
  rw [← decode_list]
  have hs : p < (⟨l.toArray⟩ : ByteArray).size := by simpa [ByteArray.size] using hp
  have e : ((⟨l.toArray⟩ : ByteArray)[p]'hs).toNat = byteAt l p := by
    unfold byteAt
    rw [List.getD_eq_getElem?_getD, List.getElem?_eq_getElem hp]
    rfl
  rw [decode_ascii _ p hs (by rw [e]; exact h), e]
theorem dec_high (l : List UInt8) (p : Nat) (hp : p < l.length) (h : 128 ≤ byteAt l p) : 128 ≤ (decAt l p).1 := by
  rw [← decode_list]
  have hs : p < (⟨l.toArray⟩ : ByteArray).size := by simpa [ByteArray.size] using hp
  have e : ((⟨l.toArray⟩ : ByteArray)[p]'hs).toNat = byteAt l p := by
    unfold byteAt
    rw [List.getD_eq_getElem?_getD, List.getElem?_eq_getElem hp]
    rfl
  exact (decode_high _ p hs (by rw [e]; exact h)).1
theorem bad_letter : letterM 65533 = [239, 191, 189] := by decide +kernel
/-- The letter as the document writes it. -/
theorem doc_letter (l : List UInt8) (p : Nat) (hp : p < l.length) : letterM (decAt l p).1 =
    if (decAt l p).1 = 65533 ∧ (decAt l p).2 = 1 then [239, 191, 189] else if byteAt l p = 34 ∨ byteAt l p = 92 then [92, (byteAt l p).toUInt8] else if byteAt l p < 32 then [92, 117, 48, 48, hexM (byteAt l p / 16), hexM (byteAt l p % 16)] else (l.drop p).take (decAt l p).2 := by
  by_cases hb : (decAt l p).1 = 65533 ∧ (decAt l p).2 = 1
  · rw [if_pos hb, hb.1, bad_letter]
  · rw [if_neg hb]
    rcases Nat.lt_or_ge (byteAt l p) 128 with hc | hc
    · have e := dec_ascii l p hp hc
      have e1 : (decAt l p).1 = byteAt l p := by rw [e]
      by_cases h1 : byteAt l p = 34 ∨ byteAt l p = 92
      · rw [if_pos h1, e1]; unfold letterM; rw [if_pos h1]
      · rw [if_neg h1]
        by_cases h2 : byteAt l p < 32
        · rw [if_pos h2, e1]; unfold letterM; rw [if_neg h1, if_pos h2]
        · rw [if_neg h2]
          unfold letterM
          rw [e1, if_neg h1, if_neg h2, ← e1]
          exact dec_bytes l p hp hb
    · have h3 := dec_high l p hp hc
      rw [if_neg (by omega), if_neg (by omega)]
      unfold letterM
      rw [if_neg (by omega), if_neg (by omega)]
      exact dec_bytes l p hp hb
def quoteL (l : List UInt8) : Nat → Nat → List UInt8
  | 0, _ => []
  | f + 1, p => if p < l.length then letterM (decAt l p).1 ++ quoteL l f (p + (decAt l p).2) else []
theorem quoteL_from (l : List UInt8) : ∀ f p, quoteFrom ⟨l.toArray⟩ f p = quoteL l f p
  | 0, _ => rfl
  | f + 1, p => by
    have hz : (⟨l.toArray⟩ : ByteArray).size = l.length := by simp [ByteArray.size]
    simp only [quoteFrom, quoteL, hz, decode_list]
    split
    · rw [quoteL_from l f]
    · rfl
theorem quoteL_end (l : List UInt8) (f p : Nat) (h : ¬ p < l.length) : quoteL l f p = [] := by
  cases f with
  | zero => rfl
  | succ f => simp [quoteL, h]
theorem bytes_cells {w : World} {g : Nat} {l : List UInt8} (h : BytesIn w g l) (p n : Nat) : ∀ j u, (bytesV ((l.drop p).take n))[j]? = some u → w.cell? ((⟨g, p, none⟩ : Addr).add j) = some u := fun j u hu => by
  have hj := (List.getElem?_eq_some_iff.1 hu).1
  rw [bytesV_len, List.length_take, List.length_drop] at hj
  rw [bytesV_get _ j (by rw [List.length_take, List.length_drop]; exact hj)] at hu
  have e : (⟨g, p, none⟩ : Addr).add j = ⟨g, p + j, none⟩ := by
    unfold Addr.add
    split
    · rename_i h; subst h; rfl
    · rfl
  rw [e, h (p + j) (by omega), ← hu]
  unfold byteAt
  rw [List.getD_eq_getElem?_getD, List.getElem?_eq_getElem (by omega)]
  simp
theorem hex_run8 (p : Nat) (hp : p < 16) (w : World) : (Instr.index 9 (.string ⟨#[48, 49, 50, 51, 52, 53, 54, 55, 56, 57, 97, 98, 99, 100, 101, 102]⟩) (.int .u8 (p : Int))).run Tryd.prog w = .ok (.int .u8 (hexM p).toNat) w := by
  have hs : (⟨#[48, 49, 50, 51, 52, 53, 54, 55, 56, 57, 97, 98, 99, 100, 101, 102]⟩ : ByteArray).size = 16 := rfl
  have hg : (⟨#[48, 49, 50, 51, 52, 53, 54, 55, 56, 57, 97, 98, 99, 100, 101, 102]⟩ : ByteArray)[p]'(by rw [hs]; exact hp) = hexM p := by
    unfold hexM
    rw [ByteArray.get!, getElem!_pos _ p (show p < 16 from hp)]
    rfl
  simp [Instr.index, go_sem, run_underlying Tryd.underlying9, hs, hp, hg]
set_option maxHeartbeats 6400000 in
theorem rquote_any {base : Nat} {w : World} {v : Value} {bs : List UInt8} (l : List UInt8) (hl : l.length ≤ 17592186044416) (hrow : BRow w base v bs) (hbs : base ≤ w.heap.size) (hlen : bs.length + (quoteM l).length ≤ 140737488000000) :
    Calls Tryd.prog 29 #[v, .string ⟨l.toArray⟩] w fun e w' => ∃ v', e = .returned v' ∧ Step base w v bs w' v' (quoteM l) := by
  obtain ⟨cap, o, hcap, hcv, hby⟩ := bytes_conv w l
  have hb1 := (Below.refl w.heap.size w).drew.alloc (Nat.le_refl _) o
  have HR1 := hide (hrow.later (Nat.le_refl _) hb1)
  have HS1 := hide (Nat.le_trans hbs hb1.size)
  have HF := hide (fun w2 v2 a (h : Step base (w.drew.alloc o) v bs w2 v2 a) => Step.from hrow hb1 h)
  have HNE := hide (row_ne hrow)
  have HLT : Hid (w.heap.size < (w.drew.alloc o).heap.size) := by show _ < _; simp
  have HBY := hide hby
  have HQ : Hid (quoteM l = [34] ++ quoteL l l.length 0 ++ [34]) := by show _ = _; rw [quoteM, quoteL_from]
  have HQL : Hid (bs.length + (1 + (quoteL l l.length 0).length + 1) ≤ 140737488000000) := by
    show _ ≤ _
    rw [HQ.out] at hlen
    simp only [List.length_append, List.length_cons, List.length_nil] at hlen
    omega
  generalize w.drew.alloc o = w1 at hcv hb1 HR1 HS1 HF HLT HBY
  have HBS : Hid (∀ w2 v2 a, Step base w1 v bs w2 v2 a → BytesIn w2 w.heap.size l) := fun w2 v2 a h j hj => (h.cell (p := ⟨w.heap.size, j, none⟩) HLT.out HNE.out).trans (HBY.out j hj)
  obtain ⟨g, hg⟩ : ∃ g, w.heap.size = g := ⟨_, rfl⟩
  rw [hg] at hcv HNE HLT HBS
  clear hby hrow hb1 hlen HBY hg
  go_enter Tryd.func29, Tryd.ntmps29
  go_wp2_with (first
    | (at_builtin; refine app_built (base := base) (.tmp 12) (.tmp 13) [34] rfl rfl rfl rfl HR1.out HS1.out rfl rfl (by have := HQL.out; omega) ?_; intro v2 w2 h2; have H2 := hide h2; clear h2))
  go_loopw [0, 7] (fun vo vi wr => ∃ (i f : Nat) (u : Value), vi = .int .i64 i ∧ u = vo ∧ i ≤ l.length ∧ l.length ≤ i + f ∧ ∃ acc, Hid (acc ++ quoteL l f i = quoteL l l.length 0) ∧ Hid (Step base w1 v bs wr u ([34] ++ acc))) (fun _ vi _ => l.length - (intOf vi).toNat)
  case atStart => exact ⟨0, l.length, _, rfl, rfl, Nat.zero_le _, by omega, [], rfl, H2.out⟩
  case round =>
    clear H2
    obtain ⟨i, f, u, rfl, rfl, hi, hf, acc, HA, HS⟩ := hrel
    have HSZ := hide (Nat.le_trans HS1.out HS.out.size)
    by_cases hil : i < l.length
    · have i1 : (i : Int) < (l.length : Int) := by omega
      have s1 : (i : Int) ≤ (l.length : Int) := by omega
      have s2 : (l.length : Int) ≤ (cap : Int) := by omega
      have s3 : ¬ cap = i := by omega
      have s4 : ¬ i = cap := by omega
      obtain ⟨f2, rfl⟩ : ∃ f2, f = f2 + 1 := ⟨f - 1, by omega⟩
      have HBI := hide (HBS.out _ _ _ HS.out)
      have HRU := hide (rune_in HBI.out i (cap - i) hil (by omega))
      have hrl := runeM_le (l.length - i) (fun j => byteAt l (i + j)) (by omega)
      rw [runeM_at] at hrl
      have hdl := doc_letter l i hil
      have HST : Hid (quoteL l (f2 + 1) i = letterM (decAt l i).1 ++ quoteL l f2 (i + (decAt l i).2)) := by show _ = _; simp [quoteL, hil]
      have c1 := HBI.out i hil
      have hbl := byteAt_lt l i
      have HALL : Hid (bs.length + (1 + acc.length) + (letterM (decAt l i).1).length ≤ 140737488000000) := by
        show _ ≤ _
        have h1 := congrArg List.length HA.out
        rw [HST.out] at h1
        simp only [List.length_append] at h1
        have := HQL.out
        omega
      have HLN : Hid ((bs ++ ([34] ++ acc)).length = bs.length + (1 + acc.length)) := by show _ = _; simp [Nat.add_comm]
      by_cases hbad : (decAt l i).1 = 65533 ∧ (decAt l i).2 = 1
      · rw [if_pos hbad] at HRU hdl
        rw [hdl, hbad.2] at HST
        rw [hdl] at HALL
        have HNX := hide ((congrArg (acc ++ ·) HST.out).symm.trans HA.out)
        clear hbad hdl hrl HST HBI
        go_wp2_with (first
          | (go_at_call 31; refine HRU.out.mono ?_; rintro e w2 ⟨rfl, hw⟩; rw [hw]; clear hw)
          | (at_builtin; refine app_built (base := base) (.tmp 38) (.tmp 39) [239, 191, 189] rfl rfl rfl rfl HS.out.row HSZ.out rfl rfl (by rw [HLN.out]; have := HALL.out; simp only [List.length_cons, List.length_nil] at this; omega) ?_; intro v2 w2 h2; have H2 := hide (HS.out.trans h2); clear h2))
        go_roundw
        case rel => exact ⟨i + 1, f2, _, by go_num, rfl, by omega, by omega, acc ++ [239, 191, 189], by rw [List.append_assoc]; exact HNX.out, H2.out.eq (List.append_assoc _ _ _)⟩
        case measure => simp [intOf]; omega
      · rw [if_neg hbad] at HRU hdl hrl
        have hpos : 1 ≤ (decAt l i).2 := by rw [decAt_L]; exact Lib.decodeL_width _
        rw [hdl] at HST HALL
        have HNX := hide ((congrArg (acc ++ ·) HST.out).symm.trans HA.out)
        clear hbad hdl HST
        generalize (decAt l i).2 = n at HRU hrl hpos HNX HALL
        obtain ⟨hn1, hn2⟩ := hrl
        have z1 : ((n : Int) == 0) = false := by simp; omega
        have z2 : ¬ (n : Int) = 0 := by omega
        generalize byteAt l i = c at c1 hbl HNX HALL
        by_cases h34 : c = 34
        · subst h34
          rw [if_pos (.inl rfl)] at HNX HALL
          go_wp2_with (first
            | (go_at_call 31; refine HRU.out.mono ?_; rintro e w2 ⟨rfl, hw⟩; rw [hw]; clear hw)
            | (at_builtin; refine app_built (base := base) (.tmp 48) (.tmp 50) [92, 34] rfl rfl rfl rfl HS.out.row HSZ.out rfl rfl (by rw [HLN.out]; have := HALL.out; simp only [List.length_cons, List.length_nil] at this; omega) ?_; intro v2 w2 h2; have H2 := hide (HS.out.trans h2); clear h2))
          go_roundw
          case rel => exact ⟨i + n, f2, _, by go_num, rfl, by omega, by omega, acc ++ [92, 34], by rw [List.append_assoc]; exact HNX.out, H2.out.eq (List.append_assoc _ _ _)⟩
          case measure => simp [intOf]; omega
        · by_cases h92 : c = 92
          · subst h92
            rw [if_pos (.inr rfl)] at HNX HALL
            go_wp2_with (first
              | (go_at_call 31; refine HRU.out.mono ?_; rintro e w2 ⟨rfl, hw⟩; rw [hw]; clear hw)
              | (at_builtin; refine app_built (base := base) (.tmp 48) (.tmp 50) [92, 92] rfl rfl rfl rfl HS.out.row HSZ.out rfl rfl (by rw [HLN.out]; have := HALL.out; simp only [List.length_cons, List.length_nil] at this; omega) ?_; intro v2 w2 h2; have H2 := hide (HS.out.trans h2); clear h2))
            go_roundw
            case rel => exact ⟨i + n, f2, _, by go_num, rfl, by omega, by omega, acc ++ [92, 92], by rw [List.append_assoc]; exact HNX.out, H2.out.eq (List.append_assoc _ _ _)⟩
            case measure => simp [intOf]; omega
          · rw [if_neg (by omega)] at HNX HALL
            have y1 : ((c : Int) == 34) = false := by simp; omega
            have y2 : ((c : Int) == 92) = false := by simp; omega
            by_cases h32 : c < 32
            · rw [if_pos h32] at HNX HALL
              have y3 : (c : Int) < 32 := by omega
              have d1 : (c : Int) / 16 = ((c / 16 : Nat) : Int) := by omega
              have d2 : (c : Int).tmod 16 = ((c % 16 : Nat) : Int) := by rw [Int.tmod_eq_emod_of_nonneg (by omega)]; omega
              have d3 : c / 16 < 16 := by omega
              have d4 : c % 16 < 16 := by omega
              obtain ⟨p, hp⟩ : ∃ p, c / 16 = p := ⟨_, rfl⟩
              obtain ⟨q, hq⟩ : ∃ q, c % 16 = q := ⟨_, rfl⟩
              rw [hp] at d1 d3 HNX HALL
              rw [hq] at d2 d4 HNX HALL
              clear hp hq
              have wp : IntKind.u8.wrap (p : Int) = (p : Int) := by unfold IntKind.wrap; simp [IntKind.signed, IntKind.bits]; omega
              have wq : IntKind.u8.wrap (q : Int) = (q : Int) := by unfold IntKind.wrap; simp [IntKind.signed, IntKind.bits]; omega
              have k1 := hex_run8 p d3
              have k2 := hex_run8 q d4
              go_wp2_with (first
                | (go_at_call 31; refine HRU.out.mono ?_; rintro e w2 ⟨rfl, hw⟩; rw [hw]; clear hw))
              go_region_law (first | (refine step_builtD (base := base) (.tmp 55) (.tmp 64) [92, 117, 48, 48, hexM p, hexM q] rfl rfl rfl rfl HS.out.row HSZ.out rfl rfl (by rw [HLN.out]; have := HALL.out; simp only [List.length_cons, List.length_nil] at this; omega) ?_; intro v2 w2 h2; have H2 := hide (HS.out.trans h2); clear h2))
              all_goals
                go_wp2
                go_roundw
                case rel => exact ⟨i + n, f2, _, by go_num, rfl, by omega, by omega, acc ++ [92, 117, 48, 48, hexM p, hexM q], by rw [List.append_assoc]; exact HNX.out, H2.out.eq (List.append_assoc _ _ _)⟩
                case measure => simp [intOf]; omega
            · rw [if_neg h32] at HNX HALL
              have y3 : ¬ (c : Int) < 32 := by omega
              have htk : ((l.drop i).take n).length = n := by rw [List.length_take, List.length_drop]; omega
              rw [htk] at HALL
              have HTK := hide htk
              have HCC := hide (bytes_cells HBI.out i n)
              have t1 : (i : Int) + (n : Int) ≤ (cap : Int) := by omega
              have t2 : (i : Int) ≤ (i : Int) + (n : Int) := by omega
              have t3 : i + n - i = n := by omega
              have t4 : i + n ≤ cap := by omega
              clear htk
              generalize (l.drop i).take n = L at HNX HTK HCC
              go_wp2_with (first
                | (go_at_call 31; refine HRU.out.mono ?_; rintro e w2 ⟨rfl, hw⟩; rw [hw]; clear hw)
                | (at_builtin; (refine app_mem (base := base) (ad := ⟨g, i, none⟩) (m := i + n - i) (.tmp 27) (.tmp 33) L rfl rfl rfl rfl HS.out.row HSZ.out (by rw [HTK.out]; omega) HCC.out (by rw [HLN.out]; have := HALL.out; omega) ?_; intro v2 w2 h2; have H2 := hide (HS.out.trans h2); clear h2)))
              go_roundw
              case rel => exact ⟨i + n, f2, _, by go_num, rfl, by omega, by omega, acc ++ L, by rw [List.append_assoc]; exact HNX.out, H2.out.eq (List.append_assoc _ _ _)⟩
              case measure => simp [intOf]; omega
    · have i1 : ¬ (i : Int) < (l.length : Int) := by omega
      have HE : Hid (quoteM l = ([34] ++ acc) ++ [34]) := by
        show _ = _
        rw [HQ.out, ← HA.out, quoteL_end l f i hil, List.append_nil]
      have HAL : Hid (bs.length + (1 + acc.length) + 1 ≤ 140737488000000) := by
        show _ ≤ _
        have h1 := congrArg List.length HA.out
        simp only [List.length_append] at h1
        have := HQL.out
        omega
      go_wp2_with (first
        | (at_builtin; refine app_built (base := base) (.tmp 69) (.tmp 70) [34] rfl rfl rfl rfl HS.out.row HSZ.out rfl rfl (by have := HAL.out; simp only [List.length_append, List.length_cons, List.length_nil]; omega) ?_; intro v2 w2 h2; have H2 := hide (HF.out _ _ _ (HS.out.trans h2)); clear h2))
      go_ret
      exact ⟨_, rfl, by rw [HE.out]; exact H2.out⟩
end Go.Proofs.YtpffhckimilppaaDoor
