/- The contracts of changed, at hold and at put. -/
import Derived.Test.YtonpjddfnokhfabDone
namespace Go.Proofs.Ytonpjddfnokhfab.mm
open Go.ChangeShapes Go.WideShapes Go.ChangeAt Go.RowKit Go.Joins
set_option linter.unusedVariables false

theorem refs_in {M : Mm} (h : chk M = 0) {i : Int} (hi : isSl M i = true) : 0 ≤ i ∧ i < M.slots.length ∧ 0 ≤ refsM M i ∧ refsM M i ≤ 1000 := by
  have hb := (inB_iff _ _ _).1 hi
  obtain ⟨j, rfl⟩ : ∃ j : Nat, i = j := ⟨i.toNat, by omega⟩
  have hj : j < M.slots.length := by omega
  have hrr : refsM M j = M.slots[j].refs := by simp [refsM, List.getD_eq_getElem?_getD, hj]
  have ho := ((chk_zero M).1 h).slot _ (List.getElem_mem hj)
  rw [hrr]
  refine ⟨by omega, by omega, ?_⟩
  have : inB M.slots[j].refs 0 1000 = true := by
    cases hh : inB M.slots[j].refs 0 1000
    · simp [slotErr, hh] at ho
    · rfl
  exact (inB_iff _ _ _).1 this

end Go.Proofs.Ytonpjddfnokhfab.mm
