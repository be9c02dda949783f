/-
  A list or object that is read ends with its bracket; no program in it.
-/
import Derived.Test.YtedhglphnmheiaaDoorPrefix
namespace Go.Proofs.YtedhglphnmheiaaDoor
open Go.RowKit

theorem eachL_close {σ : Type} {B : List UInt8} {close : Nat} {kid : σ → Nat → Res σ} : ∀ {k a q : Nat} {s s' : σ}, eachL B close kid k s a = .ok s' q → ∃ j, j < B.length ∧ byteAt B j = close
  | 0, a, q, s, s', h => by cases h
  | k + 1, a, q, s, s', h => by
    unfold eachL at h
    obtain ⟨s1, a1, h1, h2⟩ := andThen_ok h
    obtain ⟨c, p, h3, h4⟩ := andThen_ok h2
    have h5 := pl_ahead h3
    split at h4
    · rename_i g; exact ⟨p, h5.2.1, by rw [← h5.2.2.1]; exact g⟩
    · obtain ⟨y, r, h6, h7⟩ := andThen_ok h4
      exact eachL_close h7
theorem eachM_close {σ : Type} {B : List UInt8} {close : Nat} {kid : σ → Nat → Res σ} {a q : Nat} {s s' : σ} (h : eachM B close kid s a = .ok s' q) : ∃ j, j < B.length ∧ byteAt B j = close := by
  unfold eachM at h
  obtain ⟨c, p, h3, h4⟩ := andThen_ok h
  have h5 := pl_ahead h3
  split at h4
  · rename_i g; exact ⟨p, h5.2.1, by rw [← h5.2.2.1]; exact g⟩
  · exact eachL_close h4
theorem read_close {B : List UInt8} {T : List V} {z : Nat} (h : readM B = .ok T z) (ho : Opens (byteAt B 0)) : ∃ j, j < B.length ∧ (byteAt B j = 93 ∨ byteAt B j = 125) := by
  unfold readM at h
  obtain ⟨x, q, h1, _⟩ := andThen_ok h
  have h2 : valueS B (some (valueM B 15)) [] 0 = .ok x q := h1
  unfold valueS at h2
  obtain ⟨c, p, h3, h4⟩ := andThen_ok h2
  obtain ⟨y, r, h5, _⟩ := andThen_ok h4
  have h6 := pl_ahead h3
  have hs0 : skip B 0 = 0 := run_no _ _ _ (fun _ => by rcases ho with e | e <;> rw [e] <;> rfl)
  rw [h6.1, hs0] at h6
  have hc : c = byteAt B 0 := h6.2.2.1
  rcases ho with e | e
  · rw [hc, e] at h5
    unfold begunM at h5
    rw [if_neg (by decide), if_neg (by decide), if_neg (by decide), if_neg (by decide), if_neg (by decide), if_pos rfl] at h5
    unfold listM at h5
    obtain ⟨s, t, h7, _⟩ := andThen_ok h5
    obtain ⟨j, hj, hb⟩ := eachM_close h7
    exact ⟨j, hj, .inl hb⟩
  · rw [hc, e] at h5
    unfold begunM at h5
    rw [if_neg (by decide), if_neg (by decide), if_neg (by decide), if_neg (by decide), if_neg (by decide), if_neg (by decide), if_pos rfl] at h5
    unfold objectM at h5
    obtain ⟨s, t, h7, _⟩ := andThen_ok h5
    obtain ⟨j, hj, hb⟩ := eachM_close h7
    exact ⟨j, hj, .inr hb⟩
end Go.Proofs.YtedhglphnmheiaaDoor
