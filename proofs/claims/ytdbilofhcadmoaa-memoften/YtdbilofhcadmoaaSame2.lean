/- The contracts of Same and of the document's own SameMem. -/
import Derived.Test.YtdbilofhcadmoaaSame
namespace Go.Proofs.Ytdbilofhcadmoaa.mm
open Go.ChangeShapes Go.WideShapes Go.ChangeAt Go.RowKit Go.Joins
set_option linter.unusedVariables false

def eqM (A B : Mm) : Bool := eqS A.slots B.slots && (eqI A.heads B.heads && (eqI A.free B.free && (eqI A.locks B.locks && A.now == B.now)))
theorem eqM_iff (A B : Mm) : eqM A B = true ↔ A = B := by
  obtain ⟨S, H, F, L, n⟩ := A
  obtain ⟨S', H', F', L', n'⟩ := B
  simp only [eqM, Bool.and_eq_true, eqS_iff, eqI_iff, beq_iff_eq, Mm.mk.injEq]

set_option maxHeartbeats 3200000 in
theorem same_any (A B : Mm) (v1 v2 : Value) (w : World) (lo1 lo2 : Nat) (H1 : Ans lo1 w v1 A) (H2 : Ans lo2 w v2 B) :
    Calls Try.prog 17 #[v1, v2] w fun e w' => e = .returned (.bool (eqM A B)) ∧ Below w.heap.size w w' := by
  obtain ⟨aS1, aH1, aF1, aL1, cS1, cH1, cF1, cL1, rfl, A1, -⟩ := H1
  obtain ⟨aS2, aH2, aF2, aL2, cS2, cH2, cF2, cL2, rfl, A2, -⟩ := H2
  generalize hR : eqM A B = R
  have HR : Hid _ := hR
  clear hR
  have b0 : Below w.heap.size w ((w.alloc (.cells #[.slice aS1 A.slots.length cS1, .slice aH1 A.heads.length cH1, .slice aF1 A.free.length cF1, .slice aL1 A.locks.length cL1, .int .i64 A.now] 29)).alloc (.cells #[.slice aS2 B.slots.length cS2, .slice aH2 B.heads.length cH2, .slice aF2 B.free.length cF2, .slice aL2 B.locks.length cL2, .int .i64 B.now] 29)) := below_alloc2 w _ _
  have HA0 : Hid _ := A1.below b0
  have HB0 : Hid _ := A2.below b0
  have HX0 : Hid (((w.alloc (.cells #[.slice aS1 A.slots.length cS1, .slice aH1 A.heads.length cH1, .slice aF1 A.free.length cF1, .slice aL1 A.locks.length cL1, .int .i64 A.now] 29)).alloc (.cells #[.slice aS2 B.slots.length cS2, .slice aH2 B.heads.length cH2, .slice aF2 B.free.length cF2, .slice aL2 B.locks.length cL2, .int .i64 B.now] 29)).heap[w.heap.size]? = some (.cells #[.slice aS1 A.slots.length cS1, .slice aH1 A.heads.length cH1, .slice aF1 A.free.length cF1, .slice aL1 A.locks.length cL1, .int .i64 A.now] 29 (0, 0))) := by show _ = _; rw [Below.heap_alloc _ _ _ (by simp), heap_alloc_new]
  have HY0 : Hid (((w.alloc (.cells #[.slice aS1 A.slots.length cS1, .slice aH1 A.heads.length cH1, .slice aF1 A.free.length cF1, .slice aL1 A.locks.length cL1, .int .i64 A.now] 29)).alloc (.cells #[.slice aS2 B.slots.length cS2, .slice aH2 B.heads.length cH2, .slice aF2 B.free.length cF2, .slice aL2 B.locks.length cL2, .int .i64 B.now] 29)).heap[w.heap.size + 1]? = some (.cells #[.slice aS2 B.slots.length cS2, .slice aH2 B.heads.length cH2, .slice aF2 B.free.length cF2, .slice aL2 B.locks.length cL2, .int .i64 B.now] 29 (0, 0))) := by
    have := heap_alloc_new (w.alloc (.cells #[.slice aS1 A.slots.length cS1, .slice aH1 A.heads.length cH1, .slice aF1 A.free.length cF1, .slice aL1 A.locks.length cL1, .int .i64 A.now] 29)) (.cells #[.slice aS2 B.slots.length cS2, .slice aH2 B.heads.length cH2, .slice aF2 B.free.length cF2, .slice aL2 B.locks.length cL2, .int .i64 B.now] 29)
    rwa [show (w.alloc (.cells #[.slice aS1 A.slots.length cS1, .slice aH1 A.heads.length cH1, .slice aF1 A.free.length cF1, .slice aL1 A.locks.length cL1, .int .i64 A.now] 29)).heap.size = w.heap.size + 1 by simp] at this
  clear A1 A2
  go_enter Try.func17, Try.ntmps17
  go_wp2_with fail
  generalize (w.alloc (.cells #[.slice aS1 A.slots.length cS1, .slice aH1 A.heads.length cH1, .slice aF1 A.free.length cF1, .slice aL1 A.locks.length cL1, .int .i64 A.now] 29)).alloc (.cells #[.slice aS2 B.slots.length cS2, .slice aH2 B.heads.length cH2, .slice aF2 B.free.length cF2, .slice aL2 B.locks.length cL2, .int .i64 B.now] 29) = W0 at *
  refine (equalS_any aS1 aS2 cS1 cS2 A.slots B.slots _ HA0.out.s HB0.out.s).mono ?_
  rintro e w1 ⟨rfl, hb1⟩
  have b1 := b0.trans (hb1.mono b0.size)
  have HX1 : Hid _ := (hb1.block w.heap.size (lt_of_block HX0.out)).trans HX0.out
  have HY1 : Hid _ := (hb1.block (w.heap.size + 1) (lt_of_block HY0.out)).trans HY0.out
  have HA1 : Hid _ := HA0.out.below hb1
  have HB1 : Hid _ := HB0.out.below hb1
  clear hb1 b0 HX0 HY0 HA0 HB0
  obtain ⟨q0, q1, q2, q3, q4, -, -, -, -, -, -⟩ := boxf HX1.out
  obtain ⟨r0, r1, r2, r3, r4, -, -, -, -, -, -⟩ := boxf HY1.out
  cases h0 : eqS A.slots B.slots
  · have HV : Hid (R = false) := HR.out.symm.trans (by simp [eqM, h0])
    go_wp2
    go_ret
    exact ⟨ret_bool HV.out.symm, b1⟩
  have Hh0 : Hid _ := h0
  clear h0
  go_wp2_with fail
  refine (equalI_any aH1 aH2 cH1 cH2 A.heads B.heads _ HA1.out.h HB1.out.h).mono ?_
  rintro e w2 ⟨rfl, hb2⟩
  have b2 := b1.trans (hb2.mono b1.size)
  have HX2 : Hid _ := (hb2.block w.heap.size (lt_of_block HX1.out)).trans HX1.out
  have HY2 : Hid _ := (hb2.block (w.heap.size + 1) (lt_of_block HY1.out)).trans HY1.out
  have HA2 : Hid _ := HA1.out.below hb2
  have HB2 : Hid _ := HB1.out.below hb2
  clear hb2 b1 HX1 HY1 HA1 HB1
  clear q0 q1 q2 q3 q4 r0 r1 r2 r3 r4
  obtain ⟨q0, q1, q2, q3, q4, -, -, -, -, -, -⟩ := boxf HX2.out
  obtain ⟨r0, r1, r2, r3, r4, -, -, -, -, -, -⟩ := boxf HY2.out
  cases h1 : eqI A.heads B.heads
  · have HV : Hid (R = false) := HR.out.symm.trans (by simp [eqM, Hh0.out, h1])
    go_wp2
    go_ret
    exact ⟨ret_bool HV.out.symm, b2⟩
  have Hh1 : Hid _ := h1
  clear h1
  go_wp2_with fail
  refine (equalI_any aF1 aF2 cF1 cF2 A.free B.free _ HA2.out.f HB2.out.f).mono ?_
  rintro e w3 ⟨rfl, hb3⟩
  have b3 := b2.trans (hb3.mono b2.size)
  have HX3 : Hid _ := (hb3.block w.heap.size (lt_of_block HX2.out)).trans HX2.out
  have HY3 : Hid _ := (hb3.block (w.heap.size + 1) (lt_of_block HY2.out)).trans HY2.out
  have HA3 : Hid _ := HA2.out.below hb3
  have HB3 : Hid _ := HB2.out.below hb3
  clear hb3 b2 HX2 HY2 HA2 HB2
  clear q0 q1 q2 q3 q4 r0 r1 r2 r3 r4
  obtain ⟨q0, q1, q2, q3, q4, -, -, -, -, -, -⟩ := boxf HX3.out
  obtain ⟨r0, r1, r2, r3, r4, -, -, -, -, -, -⟩ := boxf HY3.out
  cases h2 : eqI A.free B.free
  · have HV : Hid (R = false) := HR.out.symm.trans (by simp [eqM, Hh0.out, Hh1.out, h2])
    go_wp2
    go_ret
    exact ⟨ret_bool HV.out.symm, b3⟩
  have Hh2 : Hid _ := h2
  clear h2
  go_wp2_with fail
  refine (equalI_any aL1 aL2 cL1 cL2 A.locks B.locks _ HA3.out.l HB3.out.l).mono ?_
  rintro e w4 ⟨rfl, hb4⟩
  have b4 := b3.trans (hb4.mono b3.size)
  have HX4 : Hid _ := (hb4.block w.heap.size (lt_of_block HX3.out)).trans HX3.out
  have HY4 : Hid _ := (hb4.block (w.heap.size + 1) (lt_of_block HY3.out)).trans HY3.out
  have HA4 : Hid _ := HA3.out.below hb4
  have HB4 : Hid _ := HB3.out.below hb4
  clear hb4 b3 HX3 HY3 HA3 HB3
  clear q0 q1 q2 q3 q4 r0 r1 r2 r3 r4
  obtain ⟨q0, q1, q2, q3, q4, -, -, -, -, -, -⟩ := boxf HX4.out
  obtain ⟨r0, r1, r2, r3, r4, -, -, -, -, -, -⟩ := boxf HY4.out
  cases h3 : eqI A.locks B.locks
  · have HV : Hid (R = false) := HR.out.symm.trans (by simp [eqM, Hh0.out, Hh1.out, Hh2.out, h3])
    go_wp2
    go_ret
    exact ⟨ret_bool HV.out.symm, b4⟩
  have Hh3 : Hid _ := h3
  clear h3
  have HV : Hid (R = (A.now == B.now)) := HR.out.symm.trans (by simp [eqM, Hh0.out, Hh1.out, Hh2.out, Hh3.out])
  go_wp2
  go_ret
  exact ⟨ret_bool HV.out.symm, b4⟩

set_option maxHeartbeats 3200000 in
theorem rsame_any (A B : Mm) (v1 v2 : Value) (w : World) (lo1 lo2 : Nat) (H1 : Ans lo1 w v1 A) (H2 : Ans lo2 w v2 B) :
    Calls Try.prog 18 #[v1, v2] w fun e w' => e = .returned (.bool (eqM A B)) ∧ Below w.heap.size w w' := by
  obtain ⟨aS1, aH1, aF1, aL1, cS1, cH1, cF1, cL1, rfl, A1, -⟩ := H1
  obtain ⟨aS2, aH2, aF2, aL2, cS2, cH2, cF2, cL2, rfl, A2, -⟩ := H2
  generalize hR : eqM A B = R
  have HR : Hid _ := hR
  clear hR
  have b0 : Below w.heap.size w ((w.alloc (.cells #[.slice aS1 A.slots.length cS1, .slice aH1 A.heads.length cH1, .slice aF1 A.free.length cF1, .slice aL1 A.locks.length cL1, .int .i64 A.now] 29)).alloc (.cells #[.slice aS2 B.slots.length cS2, .slice aH2 B.heads.length cH2, .slice aF2 B.free.length cF2, .slice aL2 B.locks.length cL2, .int .i64 B.now] 29)) := below_alloc2 w _ _
  have HA0 : Hid _ := A1.below b0
  have HB0 : Hid _ := A2.below b0
  have HX0 : Hid (((w.alloc (.cells #[.slice aS1 A.slots.length cS1, .slice aH1 A.heads.length cH1, .slice aF1 A.free.length cF1, .slice aL1 A.locks.length cL1, .int .i64 A.now] 29)).alloc (.cells #[.slice aS2 B.slots.length cS2, .slice aH2 B.heads.length cH2, .slice aF2 B.free.length cF2, .slice aL2 B.locks.length cL2, .int .i64 B.now] 29)).heap[w.heap.size]? = some (.cells #[.slice aS1 A.slots.length cS1, .slice aH1 A.heads.length cH1, .slice aF1 A.free.length cF1, .slice aL1 A.locks.length cL1, .int .i64 A.now] 29 (0, 0))) := by show _ = _; rw [Below.heap_alloc _ _ _ (by simp), heap_alloc_new]
  have HY0 : Hid (((w.alloc (.cells #[.slice aS1 A.slots.length cS1, .slice aH1 A.heads.length cH1, .slice aF1 A.free.length cF1, .slice aL1 A.locks.length cL1, .int .i64 A.now] 29)).alloc (.cells #[.slice aS2 B.slots.length cS2, .slice aH2 B.heads.length cH2, .slice aF2 B.free.length cF2, .slice aL2 B.locks.length cL2, .int .i64 B.now] 29)).heap[w.heap.size + 1]? = some (.cells #[.slice aS2 B.slots.length cS2, .slice aH2 B.heads.length cH2, .slice aF2 B.free.length cF2, .slice aL2 B.locks.length cL2, .int .i64 B.now] 29 (0, 0))) := by
    have := heap_alloc_new (w.alloc (.cells #[.slice aS1 A.slots.length cS1, .slice aH1 A.heads.length cH1, .slice aF1 A.free.length cF1, .slice aL1 A.locks.length cL1, .int .i64 A.now] 29)) (.cells #[.slice aS2 B.slots.length cS2, .slice aH2 B.heads.length cH2, .slice aF2 B.free.length cF2, .slice aL2 B.locks.length cL2, .int .i64 B.now] 29)
    rwa [show (w.alloc (.cells #[.slice aS1 A.slots.length cS1, .slice aH1 A.heads.length cH1, .slice aF1 A.free.length cF1, .slice aL1 A.locks.length cL1, .int .i64 A.now] 29)).heap.size = w.heap.size + 1 by simp] at this
  clear A1 A2
  go_enter Try.func18, Try.ntmps18
  go_wp2_with fail
  generalize (w.alloc (.cells #[.slice aS1 A.slots.length cS1, .slice aH1 A.heads.length cH1, .slice aF1 A.free.length cF1, .slice aL1 A.locks.length cL1, .int .i64 A.now] 29)).alloc (.cells #[.slice aS2 B.slots.length cS2, .slice aH2 B.heads.length cH2, .slice aF2 B.free.length cF2, .slice aL2 B.locks.length cL2, .int .i64 B.now] 29) = W0 at *
  refine (equalS_any aS1 aS2 cS1 cS2 A.slots B.slots _ HA0.out.s HB0.out.s).mono ?_
  rintro e w1 ⟨rfl, hb1⟩
  have b1 := b0.trans (hb1.mono b0.size)
  have HX1 : Hid _ := (hb1.block w.heap.size (lt_of_block HX0.out)).trans HX0.out
  have HY1 : Hid _ := (hb1.block (w.heap.size + 1) (lt_of_block HY0.out)).trans HY0.out
  have HA1 : Hid _ := HA0.out.below hb1
  have HB1 : Hid _ := HB0.out.below hb1
  clear hb1 b0 HX0 HY0 HA0 HB0
  obtain ⟨q0, q1, q2, q3, q4, -, -, -, -, -, -⟩ := boxf HX1.out
  obtain ⟨r0, r1, r2, r3, r4, -, -, -, -, -, -⟩ := boxf HY1.out
  cases h0 : eqS A.slots B.slots
  · have HV : Hid (R = false) := HR.out.symm.trans (by simp [eqM, h0])
    go_wp2
    go_ret
    exact ⟨ret_bool HV.out.symm, b1⟩
  have Hh0 : Hid _ := h0
  clear h0
  go_wp2_with fail
  refine (equalI_any aH1 aH2 cH1 cH2 A.heads B.heads _ HA1.out.h HB1.out.h).mono ?_
  rintro e w2 ⟨rfl, hb2⟩
  have b2 := b1.trans (hb2.mono b1.size)
  have HX2 : Hid _ := (hb2.block w.heap.size (lt_of_block HX1.out)).trans HX1.out
  have HY2 : Hid _ := (hb2.block (w.heap.size + 1) (lt_of_block HY1.out)).trans HY1.out
  have HA2 : Hid _ := HA1.out.below hb2
  have HB2 : Hid _ := HB1.out.below hb2
  clear hb2 b1 HX1 HY1 HA1 HB1
  clear q0 q1 q2 q3 q4 r0 r1 r2 r3 r4
  obtain ⟨q0, q1, q2, q3, q4, -, -, -, -, -, -⟩ := boxf HX2.out
  obtain ⟨r0, r1, r2, r3, r4, -, -, -, -, -, -⟩ := boxf HY2.out
  cases h1 : eqI A.heads B.heads
  · have HV : Hid (R = false) := HR.out.symm.trans (by simp [eqM, Hh0.out, h1])
    go_wp2
    go_ret
    exact ⟨ret_bool HV.out.symm, b2⟩
  have Hh1 : Hid _ := h1
  clear h1
  go_wp2_with fail
  refine (equalI_any aF1 aF2 cF1 cF2 A.free B.free _ HA2.out.f HB2.out.f).mono ?_
  rintro e w3 ⟨rfl, hb3⟩
  have b3 := b2.trans (hb3.mono b2.size)
  have HX3 : Hid _ := (hb3.block w.heap.size (lt_of_block HX2.out)).trans HX2.out
  have HY3 : Hid _ := (hb3.block (w.heap.size + 1) (lt_of_block HY2.out)).trans HY2.out
  have HA3 : Hid _ := HA2.out.below hb3
  have HB3 : Hid _ := HB2.out.below hb3
  clear hb3 b2 HX2 HY2 HA2 HB2
  clear q0 q1 q2 q3 q4 r0 r1 r2 r3 r4
  obtain ⟨q0, q1, q2, q3, q4, -, -, -, -, -, -⟩ := boxf HX3.out
  obtain ⟨r0, r1, r2, r3, r4, -, -, -, -, -, -⟩ := boxf HY3.out
  cases h2 : eqI A.free B.free
  · have HV : Hid (R = false) := HR.out.symm.trans (by simp [eqM, Hh0.out, Hh1.out, h2])
    go_wp2
    go_ret
    exact ⟨ret_bool HV.out.symm, b3⟩
  have Hh2 : Hid _ := h2
  clear h2
  go_wp2_with fail
  refine (equalI_any aL1 aL2 cL1 cL2 A.locks B.locks _ HA3.out.l HB3.out.l).mono ?_
  rintro e w4 ⟨rfl, hb4⟩
  have b4 := b3.trans (hb4.mono b3.size)
  have HX4 : Hid _ := (hb4.block w.heap.size (lt_of_block HX3.out)).trans HX3.out
  have HY4 : Hid _ := (hb4.block (w.heap.size + 1) (lt_of_block HY3.out)).trans HY3.out
  have HA4 : Hid _ := HA3.out.below hb4
  have HB4 : Hid _ := HB3.out.below hb4
  clear hb4 b3 HX3 HY3 HA3 HB3
  clear q0 q1 q2 q3 q4 r0 r1 r2 r3 r4
  obtain ⟨q0, q1, q2, q3, q4, -, -, -, -, -, -⟩ := boxf HX4.out
  obtain ⟨r0, r1, r2, r3, r4, -, -, -, -, -, -⟩ := boxf HY4.out
  cases h3 : eqI A.locks B.locks
  · have HV : Hid (R = false) := HR.out.symm.trans (by simp [eqM, Hh0.out, Hh1.out, Hh2.out, h3])
    go_wp2
    go_ret
    exact ⟨ret_bool HV.out.symm, b4⟩
  have Hh3 : Hid _ := h3
  clear h3
  have HV : Hid (R = (A.now == B.now)) := HR.out.symm.trans (by simp [eqM, Hh0.out, Hh1.out, Hh2.out, Hh3.out])
  go_wp2
  go_ret
  exact ⟨ret_bool HV.out.symm, b4⟩


end Go.Proofs.Ytdbilofhcadmoaa.mm
