/- The contracts of chain.Check and chain.Slots. -/
import Derived.Test.YtdbilofhcadmoaaMapped
namespace Go.Proofs.Ytdbilofhcadmoaa.mm
open Go.ChangeShapes Go.WideShapes Go.ChangeAt Go.RowKit Go.Joins Go.Maps
set_option maxRecDepth 100000
set_option linter.unusedVariables false

set_option maxHeartbeats 800000 in
theorem chainCheck_any (M : Mm) (aS aH aF aL : Option Addr) (cS cH cF cL : Nat) (w : World) (A : At w aS aH aF aL cS cH cF cL M) :
    Calls Try.prog 37 #[.agg #[.slice aS M.slots.length cS, .slice aH M.heads.length cH, .slice aF M.free.length cF, .slice aL M.locks.length cL, .int .i64 M.now]] w fun e w' => e = .returned (.int .i64 (chkC M)) ∧ Below w.heap.size w w' := by
  have b0 : Below w.heap.size w (w.alloc (.cells #[.slice aS M.slots.length cS, .slice aH M.heads.length cH, .slice aF M.free.length cF, .slice aL M.locks.length cL, .int .i64 M.now] 29)) := one_below w _
  have HA0 : Hid _ := A.below b0
  clear A
  go_enter Try.func37, Try.ntmps37
  go_wp2_with fail
  refine (mapped_any M aS aH aF aL cS cH cF cL _ HA0.out).mono ?_
  rintro e w1 ⟨v, rfl, -, hb1⟩
  have b1 := b0.trans (hb1.mono b0.size)
  clear hb1 b0 HA0
  go_wp2
  go_ret
  exact ⟨rfl, b1⟩

def slotsCE (M : Mm) (b : Int) : Int := if chk M ≠ 0 then chk M else if inB b 0 ((M.heads.length : Int) - 1) = false then 5 else slotsE M b.toNat
def slotsCL (M : Mm) (b : Int) : List Int := if slotsCE M b = 0 then chL M b.toNat else []

theorem irow_nil (w : World) : IRow w none 0 [] := ⟨by decide, by decide, fun _ => rfl, .inl rfl⟩

set_option maxHeartbeats 1600000 in
theorem chainSlots_any (M : Mm) (aS aH aF aL : Option Addr) (cS cH cF cL : Nat) (b : Int) (w : World) (A : At w aS aH aF aL cS cH cF cL M) :
    Calls Try.prog 33 #[.agg #[.slice aS M.slots.length cS, .slice aH M.heads.length cH, .slice aF M.free.length cF, .slice aL M.locks.length cL, .int .i64 M.now], .int .i64 b] w fun e w' =>
      ∃ ao cap, e = .returned (.tuple #[.slice ao (slotsCL M b).length cap, .int .i64 (slotsCE M b)]) ∧ IRow w' ao cap (slotsCL M b) ∧ Below w.heap.size w w' := by
  obtain ⟨E0, hE0⟩ : ∃ E0, E0 = slotsCE M b := ⟨_, rfl⟩
  obtain ⟨L0, hL0⟩ : ∃ L0, L0 = slotsCL M b := ⟨_, rfl⟩
  rw [← hE0, ← hL0]
  have HE0 : Hid (E0 = slotsCE M b) := hE0
  have HL0 : Hid (L0 = slotsCL M b) := hL0
  clear hE0 hL0
  have m2 := A.h.max
  have n2 : M.heads.length ≤ 9223372036854775807 := by omega
  obtain ⟨o1, ho1⟩ : ∃ o : Obj, o = .cells #[.slice aS M.slots.length cS, .slice aH M.heads.length cH, .slice aF M.free.length cF, .slice aL M.locks.length cL, .int .i64 M.now] 29 := ⟨_, rfl⟩
  have b0 : Below w.heap.size w (w.alloc o1) := one_below w o1
  have HB0 : Hid ((w.alloc o1).heap[w.heap.size]? = some o1) := heap_alloc_new _ _
  have HA : Hid (At w aS aH aF aL cS cH cF cL M) := A
  have HA0 : Hid _ := A.below b0
  clear A
  go_enter Try.func33, Try.ntmps33
  go_wp2_with fail
  rw [← ho1]
  generalize w.alloc o1 = W0 at *
  subst ho1
  refine (check_any M aS aH aF aL cS cH cF cL W0 HA0.out).mono ?_
  rintro e w1 ⟨rfl, hb1⟩
  have b1 := b0.trans (hb1.mono b0.size)
  have HB1 : Hid _ := (hb1.block w.heap.size (lt_of_block HB0.out)).trans HB0.out
  clear hb1 b0 HB0 HA0
  by_cases hE : chk M = 0
  rotate_left
  · have h' : (chk M != 0) = true := by simpa using hE
    have HV : Hid (E0 = chk M ∧ L0 = []) := by
      have h : slotsCE M b = chk M := by unfold slotsCE; rw [if_pos hE]
      exact ⟨HE0.out.trans h, HL0.out.trans (by unfold slotsCL; rw [h, if_neg hE])⟩
    clear HB1
    generalize chk M = E at *
    go_wp2
    go_ret2
    exact ⟨none, 0, by rw [HV.out.1, HV.out.2]; rfl, by rw [HV.out.2]; exact irow_nil _, b1⟩
  have hok := (chk_zero M).1 hE
  have HC : Hid (chk M = 0) := hE
  rw [hE]
  clear hE
  obtain ⟨q0, q1, q2, q3, q4, f0, f1, f2, f3, f4, qs⟩ := boxf HB1.out
  clear f0 f1 f2 f3 f4
  go_wp2_with fail
  refine (hasChain_any aS aH aF aL _ _ _ _ cS cH cF cL _ _ w1 n2).mono ?_
  rintro e w2 ⟨rfl, hb2⟩
  have b2 := b1.trans (hb2.mono b1.size)
  have HB2 : Hid _ := (hb2.block w.heap.size qs).trans HB1.out
  clear hb2 b1 HB1 q0 q1 q2 q3 q4 qs
  cases hS : inB b 0 ((M.heads.length : Int) - 1)
  · have HV : Hid (E0 = 5 ∧ L0 = []) := by
      have h : slotsCE M b = 5 := by unfold slotsCE; rw [if_neg (by simpa using HC.out), if_pos hS]
      exact ⟨HE0.out.trans h, HL0.out.trans (by unfold slotsCL; rw [h, if_neg (by decide)])⟩
    go_wp2
    go_ret2
    exact ⟨none, 0, by rw [HV.out.1, HV.out.2]; rfl, by rw [HV.out.2]; exact irow_nil _, b2⟩
  have hbb := (inB_iff _ _ _).1 hS
  obtain ⟨c, rfl⟩ : ∃ c : Nat, b = c := ⟨b.toNat, by omega⟩
  have hc : c < M.heads.length := by omega
  have HV : Hid (E0 = slotsE M c ∧ L0 = slotsL M c) := by
    have h : slotsCE M c = slotsE M c := by unfold slotsCE; rw [if_neg (by simpa using HC.out), if_neg (by rw [hS]; simp)]; rfl
    refine ⟨HE0.out.trans h, HL0.out.trans ?_⟩
    unfold slotsCL
    rw [h]
    unfold slotsE slotsL
    cases chOk M c <;> simp
  obtain ⟨q0, q1, q2, q3, q4, f0, f1, f2, f3, f4, qs⟩ := boxf HB2.out
  clear f0 f1 f2 f3 f4 hS hbb
  have HA2 : Hid _ := HA.out.below b2
  go_wp2_with fail
  refine (slotsOf_any M aS aH aF aL cS cH cF cL c w2 HA2.out hok hc).mono ?_
  rintro e w3 ⟨ao, cap, rfl, hrow, hb3⟩
  have b3 := b2.trans (hb3.mono b2.size)
  have HR : Hid _ := hrow
  clear hrow hb3 b2 HB2 q0 q1 q2 q3 q4 qs HA2
  generalize slotsE M c = e1 at *
  generalize slotsL M c = l1 at *
  go_wp2
  go_ret2
  exact ⟨ao, cap, by rw [HV.out.1, HV.out.2]; rfl, by rw [HV.out.2]; exact HR.out, b3⟩


end Go.Proofs.Ytdbilofhcadmoaa.mm
