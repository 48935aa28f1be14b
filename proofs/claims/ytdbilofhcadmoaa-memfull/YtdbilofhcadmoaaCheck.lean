/- The contract of memory's Check. -/
import Derived.Test.YtdbilofhcadmoaaChains
import Derived.Test.YtdbilofhcadmoaaFree
namespace Go.Proofs.Ytdbilofhcadmoaa.mm
open Go.ChangeShapes Go.WideShapes Go.ChangeAt Go.RowKit
set_option linter.unusedVariables false

set_option maxHeartbeats 1600000 in
theorem check_any (M : Mm) (aS aH aF aL : Option Addr) (cS cH cF cL : Nat) (w : World) (A : At w aS aH aF aL cS cH cF cL M) :
    Calls Try.prog 15 #[.agg #[.slice aS M.slots.length cS, .slice aH M.heads.length cH, .slice aF M.free.length cF, .slice aL M.locks.length cL, .int .i64 M.now]] w fun e w' =>
      e = .returned (.int .i64 (chk M)) ∧ Below w.heap.size w w' := by
  have m1 := A.s.max; have m2 := A.s.le; have m3 := A.h.max; have m4 := A.h.le; have m5 := A.l.max; have m6 := A.l.le
  have n1 : M.slots.length ≤ 9223372036854775807 := by omega
  have n2 : M.heads.length ≤ 9223372036854775807 := by omega
  have n3 : M.locks.length ≤ 9223372036854775807 := by omega
  clear m1 m2 m3 m4 m5 m6
  by_cases h1 : 12 < M.slots.length
  · have HV : Hid (chk M = 2) := by show _ = _; unfold chk; rw [if_pos (.inl h1)]
    go_enter Try.func15, Try.ntmps15
    go_wp2
    go_ret
    exact ⟨ret_int HV.out.symm, one_below _ _⟩
  cases h2 : inB (M.heads.length : Int) 1 4
  · have HV : Hid (chk M = 2) := by
      show _ = _; unfold chk
      have : ¬ (1 ≤ (M.heads.length : Int) ∧ (M.heads.length : Int) ≤ 4) := fun hh => by rw [(inB_iff _ _ _).2 hh] at h2; cases h2
      rw [if_pos (by omega)]
    go_enter Try.func15, Try.ntmps15
    go_wp2_with (go_at_call 56; refine (within_any _ _ _ _).mono ?_; rintro e w1 ⟨rfl, rfl⟩)
    go_ret
    exact ⟨ret_int HV.out.symm, one_below _ _⟩
  have h2' := (inB_iff _ _ _).1 h2
  by_cases h3 : M.locks.length = M.heads.length
  rotate_left
  · have HV : Hid (chk M = 4) := by
      show _ = _; unfold chk
      rw [if_neg (by omega), if_pos h3]
    have h3' : ((M.locks.length : Int) != (M.heads.length : Int)) = true := by rw [bne_iff_ne]; omega
    go_enter Try.func15, Try.ntmps15
    go_wp2_with (go_at_call 56; refine (within_any _ _ _ _).mono ?_; rintro e w1 ⟨rfl, rfl⟩)
    go_ret
    exact ⟨ret_int HV.out.symm, one_below _ _⟩
  have h3' : ((M.locks.length : Int) != (M.heads.length : Int)) = false := by rw [h3]; simp
  have H3 : Hid (M.locks.length = M.heads.length) := h3
  clear h3
  cases h4 : inB M.now 0 1000000
  · have HV : Hid (chk M = 3) := by
      show _ = _; unfold chk
      rw [if_neg (by omega), if_neg (by simpa using H3.out), if_pos h4]
    go_enter Try.func15, Try.ntmps15
    go_wp2_with (go_at_call 56; refine (within_any _ _ _ _).mono ?_; rintro e w1 ⟨rfl, rfl⟩)
    go_ret
    exact ⟨ret_int HV.out.symm, one_below _ _⟩
  have HC : Hid (chk M = (if firstE (slotErr M.heads.length M.slots.length) M.slots ≠ 0 then firstE (slotErr M.heads.length M.slots.length) M.slots
      else if firstE (chainErr M.heads.length M.slots.length) (M.heads.zip M.locks) ≠ 0 then firstE (chainErr M.heads.length M.slots.length) (M.heads.zip M.locks)
      else if freeErr M.slots [] M.free ≠ 0 then freeErr M.slots [] M.free
      else lostErr M.free 0 M.slots)) := by
    show _ = _
    unfold chk
    rw [if_neg (by omega), if_neg (by simpa using H3.out), if_neg (by rw [h4]; simp)]
  have A1 := A.below (one_below w (.cells #[.slice aS M.slots.length cS, .slice aH M.heads.length cH, .slice aF M.free.length cF, .slice aL M.locks.length cL, .int .i64 M.now] 29))
  have HA1 : Hid _ := A1
  clear A A1
  go_enter Try.func15, Try.ntmps15
  go_wp2_with (go_at_call 56; refine (within_any _ _ _ _).mono ?_; rintro e w1 ⟨rfl, rfl⟩)
  refine (checkSlots_any M aS aH aF aL cS cH cF cL _ HA1.out).mono ?_
  rintro e w1 ⟨rfl, hb1⟩
  have HA2 : Hid _ := HA1.out.below hb1
  have hx1 := (one_below w (.cells #[.slice aS M.slots.length cS, .slice aH M.heads.length cH, .slice aF M.free.length cF, .slice aL M.locks.length cL, .int .i64 M.now] 29)).trans (hb1.mono (by simp))
  have hy1 := hb1.mono (show w.heap.size + 1 ≤ _ by simp)
  clear hb1 HA1
  obtain ⟨q0, q1, q2, q3, q4, q5⟩ := box_cells hy1
  generalize hE1 : firstE (slotErr M.heads.length M.slots.length) M.slots = E1
  have HE1 : Hid _ := hE1
  clear hE1
  by_cases e1 : E1 = 0
  rotate_left
  · have e1' : (E1 != 0) = true := by simpa using e1
    have HV : Hid (chk M = E1) := by
      show _ = _
      rw [HC.out, HE1.out, if_pos e1]
    go_wp2
    go_ret
    exact ⟨ret_int HV.out.symm, hx1⟩
  subst e1
  go_wp2_with fail
  refine (checkChains_any M aS aH aF aL cS cH cF cL _ HA2.out H3.out).mono ?_
  rintro e w2 ⟨rfl, hb2⟩
  have HA3 : Hid _ := HA2.out.below hb2
  have hx2 := hx1.trans (hb2.mono hx1.size)
  have hy2 := hy1.trans (hb2.mono q5)
  clear hb2 HA2 q0 q1 q2 q3 q4 q5
  obtain ⟨q0, q1, q2, q3, q4, q5⟩ := box_cells hy2
  generalize hE2 : firstE (chainErr M.heads.length M.slots.length) (M.heads.zip M.locks) = E2
  have HE2 : Hid _ := hE2
  clear hE2
  by_cases e2 : E2 = 0
  rotate_left
  · have e2' : (E2 != 0) = true := by simpa using e2
    have HV : Hid (chk M = E2) := by
      show _ = _
      rw [HC.out, HE1.out, HE2.out, if_neg (by simp), if_pos e2]
    go_wp2
    go_ret
    exact ⟨ret_int HV.out.symm, hx2⟩
  subst e2
  go_wp2_with fail
  refine (checkFree_any M aS aH aF aL cS cH cF cL _ HA3.out).mono ?_
  rintro e w3 ⟨rfl, hb3⟩
  have hx3 := hx2.trans (hb3.mono hx2.size)
  generalize hE3 : (if freeErr M.slots [] M.free ≠ 0 then freeErr M.slots [] M.free else lostErr M.free 0 M.slots) = E3
  have HV : Hid (chk M = E3) := by
    show _ = _
    rw [HC.out, HE1.out, HE2.out, if_neg (by simp), if_neg (by simp), hE3]
  clear hE3
  go_wp2
  go_ret
  exact ⟨ret_int HV.out.symm, hx3⟩


end Go.Proofs.Ytdbilofhcadmoaa.mm
