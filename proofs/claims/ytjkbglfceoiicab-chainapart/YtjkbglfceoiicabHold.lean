/- The contracts of hold and put on memory of one's own. -/
import Derived.Test.YtjkbglfceoiicabTake
namespace Go.Proofs.Ytjkbglfceoiicab.mm
open Go.ChangeShapes Go.WideShapes Go.ChangeAt Go.RowKit Go.Joins
set_option linter.unusedVariables false

theorem one_new (w : World) (v : Value) (t : TypeId) (n : Nat) (hn : n = w.heap.size) : ∀ (j : Nat) (u : Value), ([v] : List Value)[j]? = some u → (w.alloc (.cells #[v] t)).cell? ((⟨n, 0, none⟩ : Addr).add j) = some u := by
  subst hn
  intro j u hj
  match j, hj with
  | 0, hj => simp at hj; subst hj; simp [Addr.add]

theorem box_after {w w1 : World} {B gS gF o : Nat} {u v : Value} {ob : Obj} (hg : ((w.setCell ⟨gS, o, none⟩ u).alloc ob).grownBy w1 (some gF)) (q2 : w.cell? ⟨B, 2, none⟩ = some v) (f2 : w.frozen? ⟨B, 2, none⟩ = false) (h1 : B ≠ gS) (h2 : B ≠ gF) (hB : B < w.heap.size) :
    w1.cell? ⟨B, 2, none⟩ = some v ∧ w1.frozen? ⟨B, 2, none⟩ = false := by
  have hk : w1.heap[B]? = w.heap[B]? := by
    rw [hg.block B (by simp; omega) (by intro h; injection h with h; omega), Below.heap_alloc _ _ _ (by simp; omega), Below.heap_setCell _ _ _ _ (by dsimp only; exact h1)]
  exact ⟨(World.cell?_of_block (a := ⟨B, 2, none⟩) hk).trans q2, (World.frozen?_of_block (a := ⟨B, 2, none⟩) hk).trans f2⟩

theorem own_block {w : World} {g : Nat} {F : List Int} (base : Nat) (h : w.heap[g]? = some (.cells (encI F).toArray 3 (0, 0))) (hb : base ≤ g) (hm : F.length ≤ 9223372036854775807) : w.ownsRow base 3 1 (.slice (some ⟨g, 0, none⟩) F.length F.length) F.length (encI F) :=
  ⟨by simp [encI], .inr ⟨g, F.length, _, rfl, hb, h, Nat.le_refl _, hm, by simp [encI], by rw [List.take_of_length_le (by simp [encI])]⟩⟩

end Go.Proofs.Ytjkbglfceoiicab.mm
