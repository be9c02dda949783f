/-
  What reading a list of so many sevens answers; no program in it.
-/
import Derived.Test.YtedhglphnmheiaaDoorModel
namespace Go.Proofs.YtedhglphnmheiaaDoor
open Go.RowKit

/-- A list of n sevens. -/
structure Sev (B : List UInt8) (n : Nat) : Prop where
  len : B.length = 2 * n + 1
  b0 : byteAt B 0 = 91
  bs : ∀ i, i < n → byteAt B (1 + 2 * i) = 55
  bc : ∀ i, i + 1 < n → byteAt B (2 + 2 * i) = 44
  be : byteAt B (2 * n) = 93
  pos : 0 < n
def v7 : V := { kind := 3, num := 7 }
section
variable {B : List UInt8} {n : Nat}
theorem ahead_at {a : Nat} (h : blankB (byteAt B a) = false) (ha : a < B.length) : aheadM B a = .ok (byteAt B a) a := by
  have : skip B a = a := run_no _ _ _ (fun _ => h)
  unfold aheadM peekM
  rw [this, if_pos ha]
theorem Sev.next (S : Sev B n) (i : Nat) (hi : i < n) : byteAt B (2 + 2 * i) = 44 ∨ byteAt B (2 + 2 * i) = 93 := by
  by_cases h : i + 1 < n
  · exact .inl (S.bc i h)
  · have : 2 + 2 * i = 2 * n := by omega
    rw [this]; exact .inr S.be
theorem Sev.number (S : Sev B n) (i : Nat) (hi : i < n) : numberM B (1 + 2 * i) = .ok 7 (2 + 2 * i) := by
  have hl := S.len
  have h1 : 1 + 2 * i < B.length := by omega
  have e1 : numEnd B (1 + 2 * i) = 2 + 2 * i := by
    unfold numEnd
    rw [run_yes _ _ _ h1 (by rw [S.bs i hi]; rfl), run_no _ _ _ (fun _ => ?_)]
    · omega
    · have : 1 + 2 * i + 1 = 2 + 2 * i := by omega
      rw [this]
      rcases S.next i hi with e | e <;> rw [e] <;> rfl
  have e2 : numTxt B (1 + 2 * i) = [55] := by
    unfold numTxt
    rw [e1, List.drop_eq_getElem_cons h1]
    have : 2 + 2 * i - (1 + 2 * i) = 1 := by omega
    rw [this]
    have h3 := S.bs i hi
    rw [byteAt_get B _ h1] at h3
    have : B[1 + 2 * i] = 55 := UInt8.toNat_inj.1 (by rw [h3]; rfl)
    rw [this]; rfl
  unfold numberM
  rw [e2, e1]
  rfl
theorem Sev.kid (S : Sev B n) (i : Nat) (hi : i < n) (sub : Option Sub) (T : List V) : valueS B sub T (1 + 2 * i) = if T.length = 8192 then .bad (1 + 2 * i) 27 else .ok (T.length, T ++ [v7]) (2 + 2 * i) := by
  have hl := S.len
  unfold valueS
  rw [ahead_at (by rw [S.bs i hi]; rfl) (by omega), S.bs i hi]
  simp only [Res.andThen]
  have : begunM B sub 55 T (1 + 2 * i) = .ok (v7, T) (2 + 2 * i) := by
    unfold begunM
    rw [if_neg (by decide), if_neg (by decide), if_neg (by decide), if_neg (by decide), if_pos (by decide), S.number i hi]
    rfl
  rw [this]
theorem Sev.each (S : Sev B n) (sub : Option Sub) : ∀ (r i k : Nat) (ks : List Nat) (T : List V), i + r + 1 = n → T.length = i → i ≤ 8192 →
    (n ≤ 8192 → ∃ ks' T', eachL B 93 (listK (valueS B sub)) (r + 1 + k) (ks, T) (1 + 2 * i) = .ok (ks', T') (2 * n + 1) ∧ T'.length = n) ∧ (8192 < n → eachL B 93 (listK (valueS B sub)) (r + 1 + k) (ks, T) (1 + 2 * i) = .bad 16385 27)
  | r, i, k, ks, T, hr, hT, hi => by
    have hl := S.len
    have e0 : r + 1 + k = (r + k) + 1 := by omega
    rw [e0]
    by_cases h8 : i = 8192
    · have hk : listK (valueS B sub) (ks, T) (1 + 2 * i) = .bad (1 + 2 * i) 27 := by
        unfold listK
        rw [S.kid i (by omega), if_pos (by simp only; omega)]; rfl
      refine ⟨fun h => by omega, fun _ => ?_⟩
      unfold eachL
      rw [hk]
      simp only [Res.andThen]
      congr 1; omega
    · have hk : listK (valueS B sub) (ks, T) (1 + 2 * i) = .ok (ks ++ [T.length], T ++ [v7]) (2 + 2 * i) := by
        unfold listK
        rw [S.kid i (by omega), if_neg (by simp only; omega)]; rfl
      have hstep : eachL B 93 (listK (valueS B sub)) (r + k + 1) (ks, T) (1 + 2 * i) = (aheadM B (2 + 2 * i)).andThen fun c p => if c = 93 then .ok (ks ++ [T.length], T ++ [v7]) (p + 1) else (wantM B 44 p).andThen fun _ q => eachL B 93 (listK (valueS B sub)) (r + k) (ks ++ [T.length], T ++ [v7]) q := by
        conv => lhs; unfold eachL
        rw [hk]; rfl
      rw [hstep]
      cases r with
      | zero =>
        have e2 : 2 + 2 * i = 2 * n := by omega
        rw [e2, ahead_at (by rw [S.be]; rfl) (by omega), S.be]
        refine ⟨fun _ => ⟨_, _, rfl, by simp; omega⟩, fun h => by omega⟩
      | succ r =>
        have hb := S.bc i (by omega)
        have ha : aheadM B (2 + 2 * i) = .ok 44 (2 + 2 * i) := by rw [ahead_at (by rw [hb]; rfl) (by omega), hb]
        have hw : wantM B 44 (2 + 2 * i) = .ok () (2 + 2 * i + 1) := by unfold wantM; rw [if_pos (by omega), if_pos hb]
        have hn : (Res.ok 44 (2 + 2 * i) : Res Nat).andThen (fun c p => if c = 93 then .ok (ks ++ [T.length], T ++ [v7]) (p + 1) else (wantM B 44 p).andThen fun _ q => eachL B 93 (listK (valueS B sub)) (r + 1 + k) (ks ++ [T.length], T ++ [v7]) q) = eachL B 93 (listK (valueS B sub)) (r + 1 + k) (ks ++ [T.length], T ++ [v7]) (1 + 2 * (i + 1)) := by
          simp only [Res.andThen]
          rw [if_neg (by decide), hw]
          simp only
          congr 1; omega
        rw [ha, hn]
        exact Sev.each S sub r (i + 1) k _ _ (by omega) (by simp; omega) (by omega)
theorem Sev.read (S : Sev B n) (hn : n ≤ 10000) : (n < 8192 → ∃ T, readM B = .ok T 0 ∧ T.length = n + 1) ∧ (n = 8192 → readM B = .bad 0 27) ∧ (8192 < n → readM B = .bad 16385 27) := by
  have hl := S.len
  have hp := S.pos
  have hE := S.each (some (valueM B 14)) (n - 1) 0 (B.length + 1 - n) [] [] (by omega) rfl (by omega)
  have hk : n - 1 + 1 + (B.length + 1 - n) = B.length + 1 := by omega
  rw [hk] at hE
  have hv : valueM B 16 [] 0 = (eachL B 93 (listK (valueS B (some (valueM B 14)))) (B.length + 1) ([], []) (1 + 2 * 0)).andThen fun s a' => if s.2.length = 8192 then .bad 0 27 else .ok (s.2.length, s.2 ++ [{ kind := 5, kids := s.1 }]) a' := by
    rw [show valueS B (some (valueM B 14)) = valueM B 15 from rfl]
    show valueS B (some (valueM B 15)) [] 0 = _
    unfold valueS
    rw [ahead_at (by rw [S.b0]; rfl) (by omega), S.b0]
    simp only [Res.andThen]
    have : begunM B (some (valueM B 15)) 91 [] 0 = listM B (some (valueM B 15)) [] 0 := by
      unfold begunM
      rw [if_neg (by decide), if_neg (by decide), if_neg (by decide), if_neg (by decide), if_neg (by decide), if_pos rfl]
    rw [this]
    unfold listM eachM
    have hb1 : byteAt B (0 + 1) = 55 := S.bs 0 hp
    rw [ahead_at (by rw [hb1]; rfl) (by omega), hb1]
    simp only [Res.andThen]
    rw [if_neg (by decide)]
    rw [show (0 + 1 : Nat) = 1 from rfl]
    cases eachL B 93 (listK (valueM B 15)) (B.length + 1) ([], []) 1 <;> rfl
  have hend : skip B (2 * n + 1) = 2 * n + 1 := run_no _ _ _ (fun h => by omega)
  refine ⟨fun h => ?_, fun h => ?_, fun h => ?_⟩
  · obtain ⟨ks, T, e, hT⟩ := hE.1 (by omega)
    refine ⟨T ++ [{ kind := 5, kids := ks }], ?_, by simp; omega⟩
    unfold readM; rw [hv, e]; simp only [Res.andThen]; rw [if_neg (by omega)]; simp only; rw [hend, if_neg (by omega)]
  · obtain ⟨ks, T, e, hT⟩ := hE.1 (by omega)
    unfold readM; rw [hv, e]; simp only [Res.andThen]; rw [if_pos (by omega)]
  · unfold readM; rw [hv, hE.2 h]; rfl
end
end Go.Proofs.YtedhglphnmheiaaDoor
