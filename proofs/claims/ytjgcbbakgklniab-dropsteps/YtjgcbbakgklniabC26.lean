/- The contracts of Same and of the document's own SameMem. -/
import Derived.Test.YtjgcbbakgklniabC06
import Derived.Test.YtjgcbbakgklniabC23
import Derived.Test.YtjgcbbakgklniabC25
import Derived.Test.YtjgcbbakgklniabC24
import Derived.Test.YtjgcbbakgklniabC18
import Derived.Deep.QuietTactic
import Derived.BigQuiet
namespace Go.Proofs.Ytjgcbbakgklniab.mm
open Go.ChangeShapes Go.WideShapes Go.ChangeAt Go.RowKit Go.Joins
set_option linter.unusedVariables false

def eqM (A B : Mm) : Bool := eqS A.slots B.slots && (eqI A.heads B.heads && (eqI A.free B.free && (eqI A.locks B.locks && A.now == B.now)))
theorem eqM_iff (A B : Mm) : eqM A B = true ↔ A = B := by
  obtain ⟨S, H, F, L, n⟩ := A
  obtain ⟨S', H', F', L', n'⟩ := B
  simp only [eqM, Bool.and_eq_true, eqS_iff, eqI_iff, beq_iff_eq, Mm.mk.injEq]

set_option maxHeartbeats 3200000 in
theorem same_any (A B : Mm) (v1 v2 : Value) (w : World) (lo1 lo2 : Nat) (H1 : Ans lo1 w v1 A) (H2 : Ans lo2 w v2 B) :
    Calls Try.prog 46 #[v1, v2] w fun e w' => e = .returned (.bool (eqM A B)) ∧ Below w.heap.size w w' := by
  obtain ⟨aS1, aH1, aF1, aL1, cS1, cH1, cF1, cL1, rfl, A1, -⟩ := H1
  obtain ⟨aS2, aH2, aF2, aL2, cS2, cH2, cF2, cL2, rfl, A2, -⟩ := H2
  generalize hR : eqM A B = R
  have HR : Hid _ := hR
  clear hR
  have b0 : Below w.heap.size w ((w.alloc (.cells #[.slice aS1 A.slots.length cS1, .slice aH1 A.heads.length cH1, .slice aF1 A.free.length cF1, .slice aL1 A.locks.length cL1, .int .i64 A.now] 25)).alloc (.cells #[.slice aS2 B.slots.length cS2, .slice aH2 B.heads.length cH2, .slice aF2 B.free.length cF2, .slice aL2 B.locks.length cL2, .int .i64 B.now] 25)) := below_alloc2 w _ _
  have HA0 : Hid _ := A1.below b0
  have HB0 : Hid _ := A2.below b0
  have HX0 : Hid (((w.alloc (.cells #[.slice aS1 A.slots.length cS1, .slice aH1 A.heads.length cH1, .slice aF1 A.free.length cF1, .slice aL1 A.locks.length cL1, .int .i64 A.now] 25)).alloc (.cells #[.slice aS2 B.slots.length cS2, .slice aH2 B.heads.length cH2, .slice aF2 B.free.length cF2, .slice aL2 B.locks.length cL2, .int .i64 B.now] 25)).heap[w.heap.size]? = some (.cells #[.slice aS1 A.slots.length cS1, .slice aH1 A.heads.length cH1, .slice aF1 A.free.length cF1, .slice aL1 A.locks.length cL1, .int .i64 A.now] 25 (0, 0))) := by show _ = _; rw [Below.heap_alloc _ _ _ (by simp), heap_alloc_new]
  have HY0 : Hid (((w.alloc (.cells #[.slice aS1 A.slots.length cS1, .slice aH1 A.heads.length cH1, .slice aF1 A.free.length cF1, .slice aL1 A.locks.length cL1, .int .i64 A.now] 25)).alloc (.cells #[.slice aS2 B.slots.length cS2, .slice aH2 B.heads.length cH2, .slice aF2 B.free.length cF2, .slice aL2 B.locks.length cL2, .int .i64 B.now] 25)).heap[w.heap.size + 1]? = some (.cells #[.slice aS2 B.slots.length cS2, .slice aH2 B.heads.length cH2, .slice aF2 B.free.length cF2, .slice aL2 B.locks.length cL2, .int .i64 B.now] 25 (0, 0))) := by
    have := heap_alloc_new (w.alloc (.cells #[.slice aS1 A.slots.length cS1, .slice aH1 A.heads.length cH1, .slice aF1 A.free.length cF1, .slice aL1 A.locks.length cL1, .int .i64 A.now] 25)) (.cells #[.slice aS2 B.slots.length cS2, .slice aH2 B.heads.length cH2, .slice aF2 B.free.length cF2, .slice aL2 B.locks.length cL2, .int .i64 B.now] 25)
    rwa [show (w.alloc (.cells #[.slice aS1 A.slots.length cS1, .slice aH1 A.heads.length cH1, .slice aF1 A.free.length cF1, .slice aL1 A.locks.length cL1, .int .i64 A.now] 25)).heap.size = w.heap.size + 1 by simp] at this
  clear A1 A2
  go_enter Try.func46, Try.ntmps46
  go_wp2_with fail
  generalize (w.alloc (.cells #[.slice aS1 A.slots.length cS1, .slice aH1 A.heads.length cH1, .slice aF1 A.free.length cF1, .slice aL1 A.locks.length cL1, .int .i64 A.now] 25)).alloc (.cells #[.slice aS2 B.slots.length cS2, .slice aH2 B.heads.length cH2, .slice aF2 B.free.length cF2, .slice aL2 B.locks.length cL2, .int .i64 B.now] 25) = W0 at *
  refine (equalS_any aS1 aS2 cS1 cS2 A.slots B.slots _ HA0.out.s HB0.out.s).mono ?_
  rintro e w1 ⟨rfl, hb1⟩
  have b1 := b0.trans (hb1.mono b0.size)
  have HX1 : Hid _ := (hb1.block w.heap.size (lt_of_block HX0.out)).trans HX0.out
  have HY1 : Hid _ := (hb1.block (w.heap.size + 1) (lt_of_block HY0.out)).trans HY0.out
  have HA1 : Hid _ := HA0.out.below hb1
  have HB1 : Hid _ := HB0.out.below hb1
  clear hb1 b0 HX0 HY0 HA0 HB0
  obtain ⟨q0, q1, q2, q3, q4, -, -, -, -, -, -⟩ := boxf HX1.out
  obtain ⟨r0, r1, r2, r3, r4, -, -, -, -, -, -⟩ := boxf HY1.out
  cases h0 : eqS A.slots B.slots
  · have HV : Hid (R = false) := HR.out.symm.trans (by simp [eqM, h0])
    go_wp2
    go_ret
    exact ⟨ret_bool HV.out.symm, b1⟩
  have Hh0 : Hid _ := h0
  clear h0
  go_wp2_with fail
  refine (equalI_any aH1 aH2 cH1 cH2 A.heads B.heads _ HA1.out.h HB1.out.h).mono ?_
  rintro e w2 ⟨rfl, hb2⟩
  have b2 := b1.trans (hb2.mono b1.size)
  have HX2 : Hid _ := (hb2.block w.heap.size (lt_of_block HX1.out)).trans HX1.out
  have HY2 : Hid _ := (hb2.block (w.heap.size + 1) (lt_of_block HY1.out)).trans HY1.out
  have HA2 : Hid _ := HA1.out.below hb2
  have HB2 : Hid _ := HB1.out.below hb2
  clear hb2 b1 HX1 HY1 HA1 HB1
  clear q0 q1 q2 q3 q4 r0 r1 r2 r3 r4
  obtain ⟨q0, q1, q2, q3, q4, -, -, -, -, -, -⟩ := boxf HX2.out
  obtain ⟨r0, r1, r2, r3, r4, -, -, -, -, -, -⟩ := boxf HY2.out
  cases h1 : eqI A.heads B.heads
  · have HV : Hid (R = false) := HR.out.symm.trans (by simp [eqM, Hh0.out, h1])
    go_wp2
    go_ret
    exact ⟨ret_bool HV.out.symm, b2⟩
  have Hh1 : Hid _ := h1
  clear h1
  go_wp2_with fail
  refine (equalI_any aF1 aF2 cF1 cF2 A.free B.free _ HA2.out.f HB2.out.f).mono ?_
  rintro e w3 ⟨rfl, hb3⟩
  have b3 := b2.trans (hb3.mono b2.size)
  have HX3 : Hid _ := (hb3.block w.heap.size (lt_of_block HX2.out)).trans HX2.out
  have HY3 : Hid _ := (hb3.block (w.heap.size + 1) (lt_of_block HY2.out)).trans HY2.out
  have HA3 : Hid _ := HA2.out.below hb3
  have HB3 : Hid _ := HB2.out.below hb3
  clear hb3 b2 HX2 HY2 HA2 HB2
  clear q0 q1 q2 q3 q4 r0 r1 r2 r3 r4
  obtain ⟨q0, q1, q2, q3, q4, -, -, -, -, -, -⟩ := boxf HX3.out
  obtain ⟨r0, r1, r2, r3, r4, -, -, -, -, -, -⟩ := boxf HY3.out
  cases h2 : eqI A.free B.free
  · have HV : Hid (R = false) := HR.out.symm.trans (by simp [eqM, Hh0.out, Hh1.out, h2])
    go_wp2
    go_ret
    exact ⟨ret_bool HV.out.symm, b3⟩
  have Hh2 : Hid _ := h2
  clear h2
  go_wp2_with fail
  refine (equalI_any aL1 aL2 cL1 cL2 A.locks B.locks _ HA3.out.l HB3.out.l).mono ?_
  rintro e w4 ⟨rfl, hb4⟩
  have b4 := b3.trans (hb4.mono b3.size)
  have HX4 : Hid _ := (hb4.block w.heap.size (lt_of_block HX3.out)).trans HX3.out
  have HY4 : Hid _ := (hb4.block (w.heap.size + 1) (lt_of_block HY3.out)).trans HY3.out
  have HA4 : Hid _ := HA3.out.below hb4
  have HB4 : Hid _ := HB3.out.below hb4
  clear hb4 b3 HX3 HY3 HA3 HB3
  clear q0 q1 q2 q3 q4 r0 r1 r2 r3 r4
  obtain ⟨q0, q1, q2, q3, q4, -, -, -, -, -, -⟩ := boxf HX4.out
  obtain ⟨r0, r1, r2, r3, r4, -, -, -, -, -, -⟩ := boxf HY4.out
  cases h3 : eqI A.locks B.locks
  · have HV : Hid (R = false) := HR.out.symm.trans (by simp [eqM, Hh0.out, Hh1.out, Hh2.out, h3])
    go_wp2
    go_ret
    exact ⟨ret_bool HV.out.symm, b4⟩
  have Hh3 : Hid _ := h3
  clear h3
  have HV : Hid (R = (A.now == B.now)) := HR.out.symm.trans (by simp [eqM, Hh0.out, Hh1.out, Hh2.out, Hh3.out])
  go_wp2
  go_ret
  exact ⟨ret_bool HV.out.symm, b4⟩

set_option maxHeartbeats 3200000 in
theorem rsame_any (A B : Mm) (v1 v2 : Value) (w : World) (lo1 lo2 : Nat) (H1 : Ans lo1 w v1 A) (H2 : Ans lo2 w v2 B) :
    Calls Try.prog 38 #[v1, v2] w fun e w' => e = .returned (.bool (eqM A B)) ∧ Below w.heap.size w w' := by
  obtain ⟨aS1, aH1, aF1, aL1, cS1, cH1, cF1, cL1, rfl, A1, -⟩ := H1
  obtain ⟨aS2, aH2, aF2, aL2, cS2, cH2, cF2, cL2, rfl, A2, -⟩ := H2
  generalize hR : eqM A B = R
  have HR : Hid _ := hR
  clear hR
  have b0 : Below w.heap.size w ((w.alloc (.cells #[.slice aS1 A.slots.length cS1, .slice aH1 A.heads.length cH1, .slice aF1 A.free.length cF1, .slice aL1 A.locks.length cL1, .int .i64 A.now] 25)).alloc (.cells #[.slice aS2 B.slots.length cS2, .slice aH2 B.heads.length cH2, .slice aF2 B.free.length cF2, .slice aL2 B.locks.length cL2, .int .i64 B.now] 25)) := below_alloc2 w _ _
  have HA0 : Hid _ := A1.below b0
  have HB0 : Hid _ := A2.below b0
  have HX0 : Hid (((w.alloc (.cells #[.slice aS1 A.slots.length cS1, .slice aH1 A.heads.length cH1, .slice aF1 A.free.length cF1, .slice aL1 A.locks.length cL1, .int .i64 A.now] 25)).alloc (.cells #[.slice aS2 B.slots.length cS2, .slice aH2 B.heads.length cH2, .slice aF2 B.free.length cF2, .slice aL2 B.locks.length cL2, .int .i64 B.now] 25)).heap[w.heap.size]? = some (.cells #[.slice aS1 A.slots.length cS1, .slice aH1 A.heads.length cH1, .slice aF1 A.free.length cF1, .slice aL1 A.locks.length cL1, .int .i64 A.now] 25 (0, 0))) := by show _ = _; rw [Below.heap_alloc _ _ _ (by simp), heap_alloc_new]
  have HY0 : Hid (((w.alloc (.cells #[.slice aS1 A.slots.length cS1, .slice aH1 A.heads.length cH1, .slice aF1 A.free.length cF1, .slice aL1 A.locks.length cL1, .int .i64 A.now] 25)).alloc (.cells #[.slice aS2 B.slots.length cS2, .slice aH2 B.heads.length cH2, .slice aF2 B.free.length cF2, .slice aL2 B.locks.length cL2, .int .i64 B.now] 25)).heap[w.heap.size + 1]? = some (.cells #[.slice aS2 B.slots.length cS2, .slice aH2 B.heads.length cH2, .slice aF2 B.free.length cF2, .slice aL2 B.locks.length cL2, .int .i64 B.now] 25 (0, 0))) := by
    have := heap_alloc_new (w.alloc (.cells #[.slice aS1 A.slots.length cS1, .slice aH1 A.heads.length cH1, .slice aF1 A.free.length cF1, .slice aL1 A.locks.length cL1, .int .i64 A.now] 25)) (.cells #[.slice aS2 B.slots.length cS2, .slice aH2 B.heads.length cH2, .slice aF2 B.free.length cF2, .slice aL2 B.locks.length cL2, .int .i64 B.now] 25)
    rwa [show (w.alloc (.cells #[.slice aS1 A.slots.length cS1, .slice aH1 A.heads.length cH1, .slice aF1 A.free.length cF1, .slice aL1 A.locks.length cL1, .int .i64 A.now] 25)).heap.size = w.heap.size + 1 by simp] at this
  clear A1 A2
  go_enter Try.func38, Try.ntmps38
  go_wp2_with fail
  generalize (w.alloc (.cells #[.slice aS1 A.slots.length cS1, .slice aH1 A.heads.length cH1, .slice aF1 A.free.length cF1, .slice aL1 A.locks.length cL1, .int .i64 A.now] 25)).alloc (.cells #[.slice aS2 B.slots.length cS2, .slice aH2 B.heads.length cH2, .slice aF2 B.free.length cF2, .slice aL2 B.locks.length cL2, .int .i64 B.now] 25) = W0 at *
  refine (equalS_any aS1 aS2 cS1 cS2 A.slots B.slots _ HA0.out.s HB0.out.s).mono ?_
  rintro e w1 ⟨rfl, hb1⟩
  have b1 := b0.trans (hb1.mono b0.size)
  have HX1 : Hid _ := (hb1.block w.heap.size (lt_of_block HX0.out)).trans HX0.out
  have HY1 : Hid _ := (hb1.block (w.heap.size + 1) (lt_of_block HY0.out)).trans HY0.out
  have HA1 : Hid _ := HA0.out.below hb1
  have HB1 : Hid _ := HB0.out.below hb1
  clear hb1 b0 HX0 HY0 HA0 HB0
  obtain ⟨q0, q1, q2, q3, q4, -, -, -, -, -, -⟩ := boxf HX1.out
  obtain ⟨r0, r1, r2, r3, r4, -, -, -, -, -, -⟩ := boxf HY1.out
  cases h0 : eqS A.slots B.slots
  · have HV : Hid (R = false) := HR.out.symm.trans (by simp [eqM, h0])
    go_wp2
    go_ret
    exact ⟨ret_bool HV.out.symm, b1⟩
  have Hh0 : Hid _ := h0
  clear h0
  go_wp2_with fail
  refine (equalI_any aH1 aH2 cH1 cH2 A.heads B.heads _ HA1.out.h HB1.out.h).mono ?_
  rintro e w2 ⟨rfl, hb2⟩
  have b2 := b1.trans (hb2.mono b1.size)
  have HX2 : Hid _ := (hb2.block w.heap.size (lt_of_block HX1.out)).trans HX1.out
  have HY2 : Hid _ := (hb2.block (w.heap.size + 1) (lt_of_block HY1.out)).trans HY1.out
  have HA2 : Hid _ := HA1.out.below hb2
  have HB2 : Hid _ := HB1.out.below hb2
  clear hb2 b1 HX1 HY1 HA1 HB1
  clear q0 q1 q2 q3 q4 r0 r1 r2 r3 r4
  obtain ⟨q0, q1, q2, q3, q4, -, -, -, -, -, -⟩ := boxf HX2.out
  obtain ⟨r0, r1, r2, r3, r4, -, -, -, -, -, -⟩ := boxf HY2.out
  cases h1 : eqI A.heads B.heads
  · have HV : Hid (R = false) := HR.out.symm.trans (by simp [eqM, Hh0.out, h1])
    go_wp2
    go_ret
    exact ⟨ret_bool HV.out.symm, b2⟩
  have Hh1 : Hid _ := h1
  clear h1
  go_wp2_with fail
  refine (equalI_any aF1 aF2 cF1 cF2 A.free B.free _ HA2.out.f HB2.out.f).mono ?_
  rintro e w3 ⟨rfl, hb3⟩
  have b3 := b2.trans (hb3.mono b2.size)
  have HX3 : Hid _ := (hb3.block w.heap.size (lt_of_block HX2.out)).trans HX2.out
  have HY3 : Hid _ := (hb3.block (w.heap.size + 1) (lt_of_block HY2.out)).trans HY2.out
  have HA3 : Hid _ := HA2.out.below hb3
  have HB3 : Hid _ := HB2.out.below hb3
  clear hb3 b2 HX2 HY2 HA2 HB2
  clear q0 q1 q2 q3 q4 r0 r1 r2 r3 r4
  obtain ⟨q0, q1, q2, q3, q4, -, -, -, -, -, -⟩ := boxf HX3.out
  obtain ⟨r0, r1, r2, r3, r4, -, -, -, -, -, -⟩ := boxf HY3.out
  cases h2 : eqI A.free B.free
  · have HV : Hid (R = false) := HR.out.symm.trans (by simp [eqM, Hh0.out, Hh1.out, h2])
    go_wp2
    go_ret
    exact ⟨ret_bool HV.out.symm, b3⟩
  have Hh2 : Hid _ := h2
  clear h2
  go_wp2_with fail
  refine (equalI_any aL1 aL2 cL1 cL2 A.locks B.locks _ HA3.out.l HB3.out.l).mono ?_
  rintro e w4 ⟨rfl, hb4⟩
  have b4 := b3.trans (hb4.mono b3.size)
  have HX4 : Hid _ := (hb4.block w.heap.size (lt_of_block HX3.out)).trans HX3.out
  have HY4 : Hid _ := (hb4.block (w.heap.size + 1) (lt_of_block HY3.out)).trans HY3.out
  have HA4 : Hid _ := HA3.out.below hb4
  have HB4 : Hid _ := HB3.out.below hb4
  clear hb4 b3 HX3 HY3 HA3 HB3
  clear q0 q1 q2 q3 q4 r0 r1 r2 r3 r4
  obtain ⟨q0, q1, q2, q3, q4, -, -, -, -, -, -⟩ := boxf HX4.out
  obtain ⟨r0, r1, r2, r3, r4, -, -, -, -, -, -⟩ := boxf HY4.out
  cases h3 : eqI A.locks B.locks
  · have HV : Hid (R = false) := HR.out.symm.trans (by simp [eqM, Hh0.out, Hh1.out, Hh2.out, h3])
    go_wp2
    go_ret
    exact ⟨ret_bool HV.out.symm, b4⟩
  have Hh3 : Hid _ := h3
  clear h3
  have HV : Hid (R = (A.now == B.now)) := HR.out.symm.trans (by simp [eqM, Hh0.out, Hh1.out, Hh2.out, Hh3.out])
  go_wp2
  go_ret
  exact ⟨ret_bool HV.out.symm, b4⟩




end Go.Proofs.Ytjgcbbakgklniab.mm

/- What the walks of the statements on calls that go on alone share. -/
namespace Go.Proofs.Ytjgcbbakgklniab.mm
open Go.ChangeShapes Go.WideShapes Go.ChangeAt Go.RowKit Go.Joins
set_option maxRecDepth 100000
set_option linter.unusedVariables false

theorem equalI_at2 (a1 a2 : Option Addr) (c1 c2 n1 n2 : Nat) (l1 l2 : List Int) (h1 : n1 = l1.length) (h2 : n2 = l2.length) (w : World) (r1 : IRow w a1 c1 l1) (r2 : IRow w a2 c2 l2) :
    Calls Try.prog 22 #[.slice a1 n1 c1, .slice a2 n2 c2] w fun e w' => e = .returned (.bool (eqI l1 l2)) ∧ Below w.heap.size w w' := by
  subst h1 h2
  exact equalI_any a1 a2 c1 c2 l1 l2 w r1 r2

structure AdE (w W : World) (B X Y lo : Nat) (aS aH aF aL : Option Addr) (cS cH cF cL : Nat) (M : Mm) (o1 o2 : Obj) : Prop where
  bl : Below w.heap.size w W
  m : Mine W B lo aS aH aF aL cS cH cF cL M
  x : W.heap[X]? = some o1
  y : W.heap[Y]? = some o2
theorem AdE.below {w W W2 : World} {B X Y lo : Nat} {aS aH aF aL : Option Addr} {cS cH cF cL : Nat} {M : Mm} {o1 o2 : Obj} (h : AdE w W B X Y lo aS aH aF aL cS cH cF cL M o1 o2) (hb : Below W.heap.size W W2) : AdE w W2 B X Y lo aS aH aF aL cS cH cF cL M o1 o2 :=
  ⟨h.bl.trans (hb.mono h.bl.size), h.m.below hb, (hb.block _ (lt_of_block h.x)).trans h.x, (hb.block _ (lt_of_block h.y)).trans h.y⟩

theorem eqM_own (N : Mm) : eqM N N = true := by
  unfold eqM
  rw [(eqS_iff _ _).2 rfl, (eqI_iff _ _).2 rfl, (eqI_iff _ _).2 rfl, (eqI_iff _ _).2 rfl]
  simp

theorem flows_few {M : Mm} (hM : Ok M) : (flowsOf M).length ≤ 1000 := by
  have hal := allTo_len M M.heads.length
  have hal2 : M.heads.length * M.slots.length ≤ 4 * 12 := Nat.mul_le_mul hM.nh.2 hM.ns
  unfold flowsOf
  rw [List.length_map]
  exact Nat.le_trans (Nat.le_trans hal hal2) (by omega)
theorem any_key {M : Mm} (ka kb : Int) : (flowsOf M).any (fun x => x.a == ka && x.b == kb) = hasK M (allC M) (ka, kb) := by
  unfold flowsOf hasK
  rw [Bool.eq_iff_iff, List.any_eq_true, List.contains_iff_mem, List.mem_map]
  constructor
  · rintro ⟨x, hx, h⟩
    obtain ⟨a, ha, rfl⟩ := List.mem_map.1 hx
    simp only [flowAt, Bool.and_eq_true, beq_iff_eq] at h
    exact ⟨a, ha, by unfold keyAt; rw [h.1, h.2]⟩
  · rintro ⟨a, ha, h⟩
    refine ⟨flowAt M a, List.mem_map_of_mem ha, ?_⟩
    unfold keyAt at h
    injection h with h1 h2
    simp [flowAt, h1, h2]
theorem flowsM_of {M : Mm} (h : OkC M) : flowsM M = flowsOf M := by unfold flowsM flowsOf; rw [if_pos ((chkC_zero M).2 h)]

end Go.Proofs.Ytjgcbbakgklniab.mm

/- The closed fact of the statements on Drops: what is mapped is dropped, what isn't can't be. -/
namespace Go.Proofs.Ytjgcbbakgklniab.mm
open Go.ChangeShapes Go.WideShapes Go.ChangeAt Go.RowKit Go.Joins Go.Deep
set_option maxRecDepth 100000
set_option linter.unusedVariables false

def dropFr (f : Fr) : Fr := { f with c := { f.c with kind := 3 } }
def dC : Cl := ⟨3, 3, 0, 0, 0, 0⟩
def dN1 : Mm := (run drF (drM 1) 40 sM3 (newF dC)).1
def dF1 : Fr := (run drF (drM 1) 40 sM3 (newF dC)).2.1
def dN2 : Mm := (run drF (drM 1) 40 dN1 (newF dC)).1
def dF2 : Fr := (run drF (drM 1) 40 dN1 (newF dC)).2.1
theorem d1_ok : (run drF (drM 1) 40 sM3 (newF dC)).2.2 = true := by decide
theorem d2_ok : (run drF (drM 1) 40 dN1 (newF dC)).2.2 = true := by decide
theorem d1_says : dF1.e = 0 := by decide
theorem d2_says : dF2.e = 5 := by decide
theorem d2_mem : dN2.free.length = 2 ∧ dN2.heads.length = 1 ∧ headM dN2 0 = -1 ∧ dN2.locks.length = 1 ∧ lockAt dN2 0 = -1 := by decide
theorem ds3_good : DrG 1 sM3 (newF dC) := by
  obtain ⟨X, g, h⟩ := goesB_goes (nf := drF) (nm := drM 1) (k := 40) (M := sM3) (f := newF dC) (by decide)
  exact ⟨⟨40, X, g, h⟩, fit_iff.1 (by decide), rfl, rfl⟩
theorem dn1_good : DrG 1 dN1 (newF dC) := by
  obtain ⟨X, g, h⟩ := goesB_goes (nf := drF) (nm := drM 1) (k := 40) (M := dN1) (f := newF dC) (by decide)
  exact ⟨⟨40, X, g, h⟩, fit_iff.1 (by decide), rfl, rfl⟩
theorem ds3_small : sM3.slots.length = 2 ∧ sM3.heads.length = 1 ∧ sM3.free.length = 1 ∧ sM3.locks.length = 1 := by decide

theorem drop_alone {B lo : Nat} {Z : Nat → Prop} {M N : Mm} {c : Cl} {g : Fr} (w : World) (n : Nat) (hn : n ≤ 1000) (hG : DrG 1 M (newF c)) (h1 : (run drF (drM 1) n M (newF c)).1 = N) (h2 : (run drF (drM 1) n M (newF c)).2.1 = g) (ok : Bool) (h3 : (run drF (drM 1) n M (newF c)).2.2 = ok) (hM : Has w B lo Z M) (hZ : ∀ k, Z k → k < w.heap.size) :
    Calls Try.prog 42 #[.agg #[.int .i64 c.kind, .int .i64 c.a, .int .i64 c.b, .int .i64 c.time, .int .i64 c.bk, .int .i64 c.slot], .int .i64 n, .func (.func 128) #[] #[.pointer (some ⟨B, 0, none⟩)]] w fun e w' =>
      (∃ a c', e = .returned (.tuple #[.agg #[.int .i64 g.c.kind, .int .i64 g.c.a, .int .i64 g.c.b, .int .i64 g.c.time, .int .i64 g.c.bk, .int .i64 g.c.slot, .int .i64 g.pl, .int .i64 g.cur, .int .i64 g.prev, .int .i64 g.slot, .int .i64 g.n, .slice a g.keys.length c', .bool g.done, .int .i64 g.e], .bool ok])) ∧ Has w' B lo (Up w Z) N ∧ Fine w w' Z := by
  subst h1 h2 h3
  exact alone_any 128 #[.pointer (some ⟨B, 0, none⟩)] drF (drM 1) (DrG 1) B lo Z M c n w (fun args W => by kernel_rfl) (fun M f W Z h h' => closD1 M f B lo Z W h h') (fun M f h hd => drG_next h hd) hM hZ hG hn

set_option maxHeartbeats 6400000 in
theorem dropped_any (w : World) : Calls Try.prog 61 #[] w fun e w' => e = .returned (.bool true) ∧ Below w.heap.size w w' := by
  go_enter Try.func61, Try.ntmps61
  go_wp2_with fail
  refine (single_any w).mono ?_
  rintro e w1 ⟨v1, rfl, ⟨aS1, aH1, aF1', aL1, cS1, cH1, cF1, cL1, rfl, R1⟩, b1⟩
  obtain ⟨z1, z2, z3, z4⟩ := ds3_small
  have m1 : Mine (w1.alloc (.cells #[.slice aS1 sM3.slots.length cS1, .slice aH1 sM3.heads.length cH1, .slice aF1' sM3.free.length cF1, .slice aL1 sM3.locks.length cL1, .int .i64 sM3.now] 25)) w1.heap.size w.heap.size aS1 aH1 aF1' aL1 cS1 cH1 cF1 cL1 sM3 := Mine.made R1 (by omega) (by omega) (by omega) (by omega)
  have HM1 : Hid _ := m1
  have HW1 : Hid (Below w.heap.size w (w1.alloc (.cells #[.slice aS1 sM3.slots.length cS1, .slice aH1 sM3.heads.length cH1, .slice aF1' sM3.free.length cF1, .slice aL1 sM3.locks.length cL1, .int .i64 sM3.now] 25))) := b1.alloc b1.size _
  have HS1 : Hid (w.heap.size ≤ w1.heap.size) := b1.size
  clear m1 R1 b1 z1 z2 z3 z4
  go_wp2_with fail
  generalize w1.alloc (.cells #[.slice aS1 sM3.slots.length cS1, .slice aH1 sM3.heads.length cH1, .slice aF1' sM3.free.length cF1, .slice aL1 sM3.locks.length cL1, .int .i64 sM3.now] 25) = W1 at *
  generalize w1.heap.size = B at *
  have HFt : Hid (∀ k, Foot B aS1 aH1 aF1' aL1 k → w.heap.size ≤ k) := by
    rintro k (rfl | ⟨ad, rfl, rfl⟩ | ⟨ad, rfl, rfl⟩ | ⟨ad, rfl, rfl⟩ | ⟨ad, rfl, rfl⟩)
    · exact HS1.out
    · exact (HM1.out.c.s.lt _ rfl).1
    · exact (HM1.out.c.h.lt _ rfl).1
    · exact (HM1.out.c.f.lt _ rfl).1
    · exact (HM1.out.c.l.lt _ rfl).1
  refine (drop_alone (c := dC) (N := dN1) (g := dF1) W1 40 (by omega) ds3_good rfl rfl true d1_ok ⟨_, _, _, _, _, _, _, _, HM1.out, fun _ h => h⟩ (foot_lt HM1.out)).mono ?_
  rintro e w2 ⟨⟨a2, c2, rfl⟩, hh2, hf2⟩
  have HW2 : Hid (Below w.heap.size w (w2.alloc (.cells #[.int .i64 dF1.c.kind, .int .i64 dF1.c.a, .int .i64 dF1.c.b, .int .i64 dF1.c.time, .int .i64 dF1.c.bk, .int .i64 dF1.c.slot, .int .i64 dF1.pl, .int .i64 dF1.cur, .int .i64 dF1.prev, .int .i64 dF1.slot, .int .i64 dF1.n, .slice a2 dF1.keys.length c2, .bool dF1.done, .int .i64 dF1.e] 51))) := (HW1.out.trans (hf2.down HW1.out.size HFt.out)).alloc (by have := HW1.out.size; have := hf2.size; omega) _
  have HH2 : Hid (Has (w2.alloc (.cells #[.int .i64 dF1.c.kind, .int .i64 dF1.c.a, .int .i64 dF1.c.b, .int .i64 dF1.c.time, .int .i64 dF1.c.bk, .int .i64 dF1.c.slot, .int .i64 dF1.pl, .int .i64 dF1.cur, .int .i64 dF1.prev, .int .i64 dF1.slot, .int .i64 dF1.n, .slice a2 dF1.keys.length c2, .bool dF1.done, .int .i64 dF1.e] 51)) B w.heap.size (fun k => w.heap.size ≤ k ∧ k < w2.heap.size) dN1) := (hh2.low.mono (fun k h1 h2 => ⟨h2.elim (fun h => h ▸ HS1.out) id, h1⟩)).below (one_below _ _)
  have HB2 : Hid ((w2.alloc (.cells #[.int .i64 dF1.c.kind, .int .i64 dF1.c.a, .int .i64 dF1.c.b, .int .i64 dF1.c.time, .int .i64 dF1.c.bk, .int .i64 dF1.c.slot, .int .i64 dF1.pl, .int .i64 dF1.cur, .int .i64 dF1.prev, .int .i64 dF1.slot, .int .i64 dF1.n, .slice a2 dF1.keys.length c2, .bool dF1.done, .int .i64 dF1.e] 51)).heap[w2.heap.size]? = some (.cells #[.int .i64 dF1.c.kind, .int .i64 dF1.c.a, .int .i64 dF1.c.b, .int .i64 dF1.c.time, .int .i64 dF1.c.bk, .int .i64 dF1.c.slot, .int .i64 dF1.pl, .int .i64 dF1.cur, .int .i64 dF1.prev, .int .i64 dF1.slot, .int .i64 dF1.n, .slice a2 dF1.keys.length c2, .bool dF1.done, .int .i64 dF1.e] 51 (0, 0))) := heap_alloc_new _ _
  clear hh2 hf2 HM1 HW1 HFt
  go_wp2_with fail
  generalize w2.alloc (.cells #[.int .i64 dF1.c.kind, .int .i64 dF1.c.a, .int .i64 dF1.c.b, .int .i64 dF1.c.time, .int .i64 dF1.c.bk, .int .i64 dF1.c.slot, .int .i64 dF1.pl, .int .i64 dF1.cur, .int .i64 dF1.prev, .int .i64 dF1.slot, .int .i64 dF1.n, .slice a2 dF1.keys.length c2, .bool dF1.done, .int .i64 dF1.e] 51) = W2 at *
  generalize w2.heap.size = X at *
  refine (drop_alone (c := dC) (N := dN2) (g := dF2) W2 40 (by omega) dn1_good rfl rfl true d2_ok HH2.out (fun k h => Nat.lt_trans h.2 (lt_of_block HB2.out))).mono ?_
  rintro e w3 ⟨⟨a3, c3, rfl⟩, hh3, hf3⟩
  have HW3 : Hid (Below w.heap.size w (w3.alloc (.cells #[.int .i64 dF2.c.kind, .int .i64 dF2.c.a, .int .i64 dF2.c.b, .int .i64 dF2.c.time, .int .i64 dF2.c.bk, .int .i64 dF2.c.slot, .int .i64 dF2.pl, .int .i64 dF2.cur, .int .i64 dF2.prev, .int .i64 dF2.slot, .int .i64 dF2.n, .slice a3 dF2.keys.length c3, .bool dF2.done, .int .i64 dF2.e] 51))) := (HW2.out.trans (hf3.down HW2.out.size (fun k h => h.1))).alloc (by have := HW2.out.size; have := hf3.size; omega) _
  obtain ⟨aS, aH, aF, aL, cS, cH, cF, cL, m, hft⟩ := hh3
  have hX3 : w3.heap[X]? = some (.cells #[.int .i64 dF1.c.kind, .int .i64 dF1.c.a, .int .i64 dF1.c.b, .int .i64 dF1.c.time, .int .i64 dF1.c.bk, .int .i64 dF1.c.slot, .int .i64 dF1.pl, .int .i64 dF1.cur, .int .i64 dF1.prev, .int .i64 dF1.slot, .int .i64 dF1.n, .slice a2 dF1.keys.length c2, .bool dF1.done, .int .i64 dF1.e] 51 (0, 0)) := (hf3.block X (lt_of_block HB2.out) (fun h => by have := h.2; omega)).trans HB2.out
  obtain ⟨f0, f1, f2, f3, f4, f5, f6, f7, f8, f9, f10, f11, f12, f13, -, fs⟩ := framef hX3
  rw [d1_says] at f13
  obtain ⟨n1, n2, n3, n4, n5⟩ := d2_mem
  obtain ⟨q0, q1, q2, q3, q4, -, -, -, -, -, qs⟩ := boxf m.box
  obtain ⟨gL, rfl, -, -, -, -⟩ := row_form m.c.l (by rw [n4]; omega)
  have hxl := (row_cell m.c.l (j := 0) (by rw [n4]; omega)).1
  rw [← lockAt_get (by rw [n4]; omega), n5] at hxl
  obtain ⟨gH, rfl, -, -, -, -⟩ := row_form m.c.h (by rw [n2]; omega)
  have hxh := (row_cell m.c.h (j := 0) (by rw [n2]; omega)).1
  have hh0 : dN2.heads[0]'(by rw [n2]; omega) = -1 := by rw [← n3]; simp [headM, List.getD_eq_getElem?_getD, n2]
  rw [hh0] at hxh
  have bl1 := cell_lt hxl
  have bl2 := cell_lt hxh
  rw [n4] at q3
  rw [n1] at q2
  rw [n2] at q1
  have he2 : dF2.e = 5 := d2_says
  clear hf3 hft HH2 HB2 HW2 m hX3 n1 n2 n3 n4 n5 hh0 f0 f1 f2 f3 f4 f5 f6 f7 f8 f9 f10 f11 f12
  go_wp2
  go_ret
  exact ⟨rfl, HW3.out⟩
end Go.Proofs.Ytjgcbbakgklniab.mm
