/- The contracts of hold and put on memory of one's own. -/
import Derived.Test.YtonpjddfnokhfabTake
namespace Go.Proofs.Ytonpjddfnokhfab.mm
open Go.ChangeShapes Go.WideShapes Go.ChangeAt Go.RowKit Go.Joins
set_option linter.unusedVariables false

theorem one_new (w : World) (v : Value) (t : TypeId) (n : Nat) (hn : n = w.heap.size) : ∀ (j : Nat) (u : Value), ([v] : List Value)[j]? = some u → (w.alloc (.cells #[v] t)).cell? ((⟨n, 0, none⟩ : Addr).add j) = some u := by
  subst hn
  intro j u hj
  match j, hj with
  | 0, hj => simp at hj; subst hj; simp [Addr.add]

theorem box_after {w w1 : World} {B gS o : Nat} {row : Option Nat} {u v : Value} {ob : Obj} (hg : ((w.setCell ⟨gS, o, none⟩ u).alloc ob).grownBy w1 row) (q2 : w.cell? ⟨B, 2, none⟩ = some v) (f2 : w.frozen? ⟨B, 2, none⟩ = false) (h1 : B ≠ gS) (h2 : row ≠ some B) (hB : B < w.heap.size) :
    w1.cell? ⟨B, 2, none⟩ = some v ∧ w1.frozen? ⟨B, 2, none⟩ = false := by
  have hk : w1.heap[B]? = w.heap[B]? := by
    rw [hg.block B (by simp; omega) (fun e => h2 e.symm), Below.heap_alloc _ _ _ (by simp; omega), Below.heap_setCell _ _ _ _ (by dsimp only; exact h1)]
  exact ⟨(World.cell?_of_block (a := ⟨B, 2, none⟩) hk).trans q2, (World.frozen?_of_block (a := ⟨B, 2, none⟩) hk).trans f2⟩

theorem setRefs_at (M : Mm) (j : Nat) (hj : j < M.slots.length) (r : Int) : setRefs M j r = M.slots.set j { M.slots[j] with refs := r } := by
  simp [setRefs, List.getD_eq_getElem?_getD, hj]
theorem refsM_at (M : Mm) (j : Nat) (hj : j < M.slots.length) : refsM M j = M.slots[j].refs := by
  simp [refsM, List.getD_eq_getElem?_getD, hj]

theorem turned {M : Mm} {w : World} {B lo g j : Nat} {aH aF aL : Option Addr} {cS cH cF cL : Nat} (m : Mine w B lo (some ⟨g, 0, none⟩) aH aF aL cS cH cF cL M) (hj : j < M.slots.length) (r : Int) :
    Mine (w.setCell ⟨g, j * 6, none⟩ (.int .i64 r)) B lo (some ⟨g, 0, none⟩) aH aF aL cS cH cF cL { M with slots := setRefs M j r } := by
  rw [setRefs_at M j hj r]
  exact m.setS _ _ _ (encS_set1 M.slots j hj r)

end Go.Proofs.Ytonpjddfnokhfab.mm
