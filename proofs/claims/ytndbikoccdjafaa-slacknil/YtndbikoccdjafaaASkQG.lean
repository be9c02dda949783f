/-
  Several texts in one: SkQ SkM.
-/
import Derived.Test.YtndbikoccdjafaaASkP
import Derived.Test.YtndbikoccdjafaaACHCallG
import Derived.Test.YtndbikoccdjafaaACStpAG
import Derived.Test.YtndbikoccdjafaaACPln0
import Derived.Test.YtndbikoccdjafaaACRowTG
namespace Go.Proofs.Ytndbikoccdjafaa
open Go.RowKit
def winS (p : Prb) (v : Veh) (k j : Int) : List Win := if k = 4 then (v.brks.getD j.toNat bz).wins else (stpM p k j).wins
def optW (S : List Stp) (i : Nat) : Option (List Win) := if i = 0 then none else some (S.getD i sz).wins
def stgM (p : Prb) (v : Veh) (U : List Vst) : List Stg := (List.range (U.length + 1)).map fun i => (optW (stopsM p v U) i, ((stopsM p v U).getD i sz).serv + travelM p.time (stopsM p v U) (i + 1))
section
variable {p : Prb} {v : Veh} {U : List Vst}
theorem lst_le {s : Stg} {S : List Stg} (h : okG (s :: S)) {t : Int} (ht : (lstG s.1 t).2 = true) : (lstG s.1 t).1 ≤ t := by
  have := (galG h (lstG s.1 t).1 t).2 ⟨ht, Int.le_refl _⟩
  have hs := h s List.mem_cons_self
  obtain ⟨o, d⟩ := s
  cases o with
  | none => exact Int.le_refl _
  | some L => exact (Hr.last_le (hs L rfl) t ht).1
theorem lat_ub {cl : Int} : ∀ {S : List Stg} {l : List Int}, okG S → (∀ s ∈ S, 0 ≤ s.2) → latG cl S = some l → ∀ i, i < l.length → l.getD i 0 ≤ cl
  | [], l, _, _, h, i, hi => by
    unfold latG at h
    injection h with h
    subst h
    have : i = 0 := by simpa using hi
    subst this
    exact Int.le_refl _
  | s :: r, l, ok, h0, h, i, hi => by
    obtain ⟨m, h1, h2, rfl⟩ := lat_cons h
    have ih := lat_ub ok.tail (fun s hs => h0 s (List.mem_cons_of_mem _ hs)) h1
    cases i with
    | zero =>
      have := lst_le ok h2
      have h3 := ih 0 (by rw [lat_len h1]; omega)
      have h4 := h0 s List.mem_cons_self
      have e : m.getD 0 0 = m.headD 0 := by cases m <;> rfl
      show (lstG s.1 (m.headD 0 - s.2)).1 ≤ cl
      omega
    | succ i => exact ih i (by simpa using hi)
/-- What is known of a plan's way: its steps L, its stages G. -/
structure Rout (p : Prb) (k : Nat) (L : List StepT) (G : List Stg) : Prop where
  len : L.length = G.length + 1
  low : 1 ≤ G.length
  high : G.length ≤ 40
  ok : okG G
  step : ∀ i, i < G.length → ∃ s t, L[i]? = some s ∧ L[i + 1]? = some t ∧ G[i]? = some (if i = 0 then none else some (winS p (p.vs.getD k vz) s.kind s.item), s.serv + cellM p.time s.place t.place) ∧ (0 ≤ s.serv ∧ s.serv ≤ 1000000) ∧ (0 ≤ cellM p.time s.place t.place ∧ cellM p.time s.place t.place ≤ 32000000) ∧ (i = 0 → s.kind = 5 ∧ s.item = 0 ∧ s.serv = 0) ∧ (i ≠ 0 → (s.kind = 4 ∧ ∃ q : Nat, s.item = q ∧ q < (p.vs.getD k vz).brks.length ∧ s.serv = ((p.vs.getD k vz).brks.getD q bz).serv) ∨ (s.kind ≠ 4 ∧ thereV p s.kind s.item = true ∧ s.serv = (stpM p s.kind s.item).serv))
theorem lat_bd {k : Nat} {L : List StepT} {G : List Stg} {l : List Int} {cl : Int} (R : Rout p k L G) (ht : 0 ≤ cl ∧ cl ≤ 1000000) (h : latG cl G = some l) : l.length = G.length + 1 ∧ l.getD G.length 0 = cl ∧ ∀ i, i < G.length + 1 → -100000000 ≤ l.getD i 0 ∧ l.getD i 0 ≤ 1000000 := by
  have hlen := lat_len h
  refine ⟨hlen, lat_last h, fun i hi => ?_⟩
  have hub : ∀ i, i < G.length + 1 → l.getD i 0 ≤ cl := fun i hi => lat_ub R.ok (fun s hs => by
    obtain ⟨j, hj, e⟩ := List.getElem_of_mem hs
    obtain ⟨a, b, _, _, e2, e3, e4, _, _⟩ := R.step j hj
    rw [List.getElem?_eq_getElem hj, e] at e2
    injection e2 with e2
    rw [e2]
    show 0 ≤ a.serv + cellM p.time a.place b.place
    omega) h i (by omega)
  have hlo : ∀ i, 1 ≤ i → i < G.length + 1 → 0 ≤ l.getD i 0 := fun i h1 hi => by
    by_cases e : i = G.length
    · rw [e, lat_last h]; exact ht.1
    · obtain ⟨a, b, _, _, e2, _⟩ := R.step i (by omega)
      have := lat_at h e2
      rw [if_neg (by omega)] at this
      have hw : Hr.Lw (winS p (p.vs.getD k vz) a.kind a.item) := R.ok _ (List.mem_of_getElem? e2) _ (by rw [if_neg (by omega)])
      have h9 := Hr.last_le hw (l.getD (i + 1) 0 - (a.serv + cellM p.time a.place b.place)) (by
        have := congrArg Prod.snd this
        exact this)
      have h8 := congrArg Prod.fst this
      have h8 : (Hr.lastM (l.getD (i + 1) 0 - (a.serv + cellM p.time a.place b.place)) (winS p (p.vs.getD k vz) a.kind a.item)).1 = l.getD i 0 := h8
      omega
  have := hub i hi
  by_cases e : i = 0
  · subst e
    obtain ⟨a, b, _, _, e2, e3, e4, _⟩ := R.step 0 R.low
    have h9 := lat_at h e2
    rw [if_pos rfl] at h9
    have h8 := congrArg Prod.fst h9
    have h8 : l.getD 1 0 - (a.serv + cellM p.time a.place b.place) = l.getD 0 0 := h8
    have := hlo 1 (Nat.le_refl _) (by have := R.low; omega)
    omega
  · have := hlo i (by omega) hi
    omega
end
end Go.Proofs.Ytndbikoccdjafaa
namespace Go.Proofs.Ytndbikoccdjafaa
open Go.RowKit
theorem own : ownKnob Try.prog.godebug = none := by kernel_rfl
/-- Steps in memory, cell by cell. -/
def StpC (w : World) (a : Option Addr) (n : Nat) (L : List StepT) : Prop := L.length = n ∧ ∀ i s, L[i]? = some s → ∃ g y, a = some ⟨g, 0, none⟩ ∧ g < w.heap.size ∧ ∀ j, j < 9 → w.cell? ⟨g, i * 9 + j, none⟩ = (encS s y)[j]?
theorem StpC.on {w w' : World} {a : Option Addr} {n : Nat} {L : List StepT} (h : StpC w a n L) (f : Below w.heap.size w w') : StpC w' a n L := ⟨h.1, fun i s hs => by
  obtain ⟨g, y, e, hg, hc⟩ := h.2 i s hs
  exact ⟨g, y, e, Nat.lt_of_lt_of_le hg f.size, fun j hj => ((bcell f).1 _ _ hg).trans (hc j hj)⟩⟩
/-- What the calls of slack are handed. -/
structure SlkV (w : World) (x : PrbS) (p : Prb) (k : Nat) (a : Option Addr) (n : Nat) (L : List StepT) (G : List Stg) : Prop where
  prb : PrbV w x p
  law : lawM p = true
  veh : k < p.vs.length
  stp : StpC w a n L
  rt : Rout p k L G
theorem SlkV.on {w w' : World} {x : PrbS} {p : Prb} {k n : Nat} {a : Option Addr} {L : List StepT} {G : List Stg} (h : SlkV w x p k a n L G) (f : Below w.heap.size w w') : SlkV w' x p k a n L G := ⟨h.prb.on f, h.law, h.veh, h.stp.on f, h.rt⟩
theorem stpM_few {p : Prb} (h : lawM p = true) (k i : Int) : (stpM p k i).wins.length ≤ 4 := by
  have key : ∀ {n : Int} {s : Stp}, stpB n s = true → s.wins.length ≤ 4 := fun h => by
    unfold stpB at h
    simp only [Bool.and_eq_true] at h
    exact (winB_ok h.2).2.1
  cases ht : thereV p k i with
  | false => rw [stpM_no ht]; exact Nat.zero_le _
  | true =>
    rcases thereV_cases ht with ⟨_, j, _, hj, e⟩ | ⟨_, j, _, hj, e⟩ | ⟨_, j, _, hj, e⟩ <;> rw [e]
    · have := law_job h hj
      unfold jobB at this
      simp only [Bool.and_eq_true] at this
      exact key this.1.1.1.1
    · have := law_shp h hj
      unfold shpB at this
      simp only [Bool.and_eq_true] at this
      exact key this.1.1.1.1
    · have := law_shp h hj
      unfold shpB at this
      simp only [Bool.and_eq_true] at this
      exact key this.1.1.1.2
theorem stopW_any {w : World} {x : PrbS} {p : Prb} (h : PrbV w x p) (hl : lawM p = true) (k i : Int) : Calls Try.prog 89 #[.agg (prbE p x), .agg #[.int .i64 k, .int .i64 i]] w fun e w' => ∃ y, e = .returned (.tuple #[.agg #[.int .i64 (stpM p k i).place, .int .i64 (stpM p k i).serv, y], .bool (thereV p k i)]) ∧ WinsV w' y (stpM p k i).wins ∧ Below w.heap.size w w' := by
  refine (stopV_any h k i).mono ?_
  rintro e w' ⟨y, rfl, h1, h2⟩
  have hf := stpM_few hl k i
  exact ⟨y, rfl, OWins.read (G := fun _ => False) (base := w.heap.size) ⟨h1, by omega, fun _ _ h => h⟩, h2⟩
end Go.Proofs.Ytndbikoccdjafaa
