import Derived.OrdersHeld
import Derived.Deep.RegionHeld3
import Derived.Test.YtgjpkpmikbpcnaaOMem
namespace Go.Proofs.Ytgjpkpmikbpcnaa.Mn
open Go Go.RowKit

theorem c7 {w:World} {b:Nat} {v0 v1 v2 v3 v4 v5 v6:Value} (h:∀ j, w.cell? ⟨b, j, none⟩=(#[v0, v1, v2, v3, v4, v5, v6]:Array Value)[j]?):w.cell? ⟨b, 0, none⟩=some v0∧w.cell? ⟨b, 1, none⟩=some v1∧w.cell? ⟨b, 2, none⟩=some v2∧w.cell? ⟨b, 3, none⟩=some v3∧w.cell? ⟨b, 4, none⟩=some v4∧w.cell? ⟨b, 5, none⟩=some v5∧w.cell? ⟨b, 6, none⟩=some v6:=⟨h 0, h 1, h 2, h 3, h 4, h 5, h 6⟩
theorem c8 {w:World} {b:Nat} {v0 v1 v2 v3 v4 v5 v6 v7:Value} (h:∀ j, w.cell? ⟨b, j, none⟩=(#[v0, v1, v2, v3, v4, v5, v6, v7]:Array Value)[j]?):w.cell? ⟨b, 0, none⟩=some v0∧w.cell? ⟨b, 1, none⟩=some v1∧w.cell? ⟨b, 2, none⟩=some v2∧w.cell? ⟨b, 3, none⟩=some v3∧w.cell? ⟨b, 4, none⟩=some v4∧w.cell? ⟨b, 5, none⟩=some v5∧w.cell? ⟨b, 6, none⟩=some v6∧w.cell? ⟨b, 7, none⟩=some v7:=⟨h 0, h 1, h 2, h 3, h 4, h 5, h 6, h 7⟩
theorem c10 {w:World} {b:Nat} {v0 v1 v2 v3 v4 v5 v6 v7 v8 v9:Value} (h:∀ j, w.cell? ⟨b, j, none⟩=(#[v0, v1, v2, v3, v4, v5, v6, v7, v8, v9]:Array Value)[j]?):w.cell? ⟨b, 0, none⟩=some v0∧w.cell? ⟨b, 1, none⟩=some v1∧w.cell? ⟨b, 2, none⟩=some v2∧w.cell? ⟨b, 3, none⟩=some v3∧w.cell? ⟨b, 4, none⟩=some v4∧w.cell? ⟨b, 5, none⟩=some v5∧w.cell? ⟨b, 6, none⟩=some v6∧w.cell? ⟨b, 7, none⟩=some v7∧w.cell? ⟨b, 8, none⟩=some v8∧w.cell? ⟨b, 9, none⟩=some v9:=⟨h 0, h 1, h 2, h 3, h 4, h 5, h 6, h 7, h 8, h 9⟩
theorem c11 {w:World} {b:Nat} {v0 v1 v2 v3 v4 v5 v6 v7 v8 v9 v10:Value} (h:∀ j, w.cell? ⟨b, j, none⟩=(#[v0, v1, v2, v3, v4, v5, v6, v7, v8, v9, v10]:Array Value)[j]?):w.cell? ⟨b, 0, none⟩=some v0∧w.cell? ⟨b, 1, none⟩=some v1∧w.cell? ⟨b, 2, none⟩=some v2∧w.cell? ⟨b, 3, none⟩=some v3∧w.cell? ⟨b, 4, none⟩=some v4∧w.cell? ⟨b, 5, none⟩=some v5∧w.cell? ⟨b, 6, none⟩=some v6∧w.cell? ⟨b, 7, none⟩=some v7∧w.cell? ⟨b, 8, none⟩=some v8∧w.cell? ⟨b, 9, none⟩=some v9∧w.cell? ⟨b, 10, none⟩=some v10:=⟨h 0, h 1, h 2, h 3, h 4, h 5, h 6, h 7, h 8, h 9, h 10⟩
theorem z7 {w:World} {b:Nat} (h:∀ j, w.frozen? ⟨b, j, none⟩=false):w.frozen? ⟨b, 0, none⟩=false∧w.frozen? ⟨b, 1, none⟩=false∧w.frozen? ⟨b, 2, none⟩=false∧w.frozen? ⟨b, 3, none⟩=false∧w.frozen? ⟨b, 4, none⟩=false∧w.frozen? ⟨b, 5, none⟩=false∧w.frozen? ⟨b, 6, none⟩=false:=⟨h 0, h 1, h 2, h 3, h 4, h 5, h 6⟩
theorem x3 {w:World} {b t:Nat} {v0 v1 v2:Value} (h:w.heap[b]? = some (.cells #[v0, v1, v2] t)):w.cell? ⟨b, 0, none⟩=some v0∧w.cell? ⟨b, 1, none⟩=some v1∧w.cell? ⟨b, 2, none⟩=some v2∧w.frozen? ⟨b, 0, none⟩=false∧w.frozen? ⟨b, 1, none⟩=false∧w.frozen? ⟨b, 2, none⟩=false :=
 have hf:∀ j, w.frozen? ⟨b, j, none⟩=false:=fun j=>by unfold World.frozen?; simp [h]
 ⟨cell_of_row _ _ _ _ _ _ h, cell_of_row _ _ _ _ _ _ h, cell_of_row _ _ _ _ _ _ h, hf 0, hf 1, hf 2⟩
theorem x7 {w:World} {b t:Nat} {v0 v1 v2 v3 v4 v5 v6:Value} (h:w.heap[b]? = some (.cells #[v0, v1, v2, v3, v4, v5, v6] t)):w.cell? ⟨b, 0, none⟩=some v0∧w.cell? ⟨b, 1, none⟩=some v1∧w.cell? ⟨b, 2, none⟩=some v2∧w.cell? ⟨b, 3, none⟩=some v3∧w.cell? ⟨b, 4, none⟩=some v4∧w.cell? ⟨b, 5, none⟩=some v5∧w.cell? ⟨b, 6, none⟩=some v6∧w.frozen? ⟨b, 0, none⟩=false∧w.frozen? ⟨b, 1, none⟩=false∧w.frozen? ⟨b, 2, none⟩=false∧w.frozen? ⟨b, 3, none⟩=false∧w.frozen? ⟨b, 4, none⟩=false∧w.frozen? ⟨b, 5, none⟩=false∧w.frozen? ⟨b, 6, none⟩=false :=
 have hf:∀ j, w.frozen? ⟨b, j, none⟩=false:=fun j=>by unfold World.frozen?; simp [h]
 ⟨cell_of_row _ _ _ _ _ _ h, cell_of_row _ _ _ _ _ _ h, cell_of_row _ _ _ _ _ _ h, cell_of_row _ _ _ _ _ _ h, cell_of_row _ _ _ _ _ _ h, cell_of_row _ _ _ _ _ _ h, cell_of_row _ _ _ _ _ _ h, hf 0, hf 1, hf 2, hf 3, hf 4, hf 5, hf 6⟩
theorem t {P:Program} {md:Region.Mode} {ops:Array Oper} {Q:Exit→Act→World→Prop} {S:World→Prop} (i:Nat) {oi:Oper} {v:Value} {fuel:Nat} {listed:Array Bool} {a:Act} {w:World} (h:wpAnyH P md ops Q S fuel (listed.setIfInBounds i true) (a.put oi.dst v) w) (hi:ops[i]? = some oi:=by rfl)
  (hs:Region.noSelect ops=true:=by kernel_rfl) (hf:Region.free md ops listed i=true:=by kernel_rfl) (hr:(Region.ready md ops listed).contains i=true:=by kernel_rfl)
  (hQ:∀ c a w, Q (.panic c) (a.put oi.dst v) w→Q (.panic c) a w:=by exact fun _ _ _ h=>h) (hy:YieldsIf P ops S oi v a:=by refine Or.inl ⟨by rfl, ?_⟩; intro w hSw; (try dsimp only at hSw); first | (go_simp; done) | (go_simp; with_reducible rfl) | with_reducible rfl | rfl) (hS:S w:=by assumption):wpAnyH P md ops Q S (fuel+1) listed a w :=
 wpAnyH_take hi hs hf hr hQ hy hS h
theorem a {w:World} {o:Obj}:Below w.heap.size w (w.alloc o):=(Below.refl _ _).alloc (Nat.le_refl _) _
theorem g {p:Prop} (h:p:=by first | (simp; done) | (simp; omega)):p:=h
theorem q {α:Type _} {l:List α} {i:Nat} {x:α}:l.toArray.setIfInBounds i x=(l.set i x).toArray:=List.setIfInBounds_toArray _ _ _
end Go.Proofs.Ytgjpkpmikbpcnaa.Mn
