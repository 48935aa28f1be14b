/- The closed fact filled: it holds in every world. -/
import Derived.Test.YtdbilofhcadmoaaNew
namespace Go.Proofs.Ytdbilofhcadmoaa.mm
open Go.ChangeShapes Go.WideShapes Go.ChangeAt Go.RowKit Go.Joins
set_option linter.unusedVariables false

theorem kequal (a b c d : Int) (w : World) : (Op.equalIn 10000 37 (.agg #[.int .i64 a, .int .i64 b]) (.agg #[.int .i64 c, .int .i64 d])).run Try.prog w = .ok (a == c && b == d) w := by
  have u3 := Try.underlying3
  have a3 := Try.isAgg3
  have z3 := Try.sizeOf3
  have hS : Try.prog.underlying 37 = some (.struct (Try.prog.fieldsOf 37)) := by kernel_rfl
  have hp : Try.prog.stoodInHeld 37 = false := by kernel_rfl
  rw [show (10000 : Nat) = 9999 + 1 from rfl, run_equalIn_agg w 9999 37 _ _ hS hp]
  simp only [Program.fieldsOf, Try.underlying37]
  go_simp
  by_cases h1 : a = c <;> by_cases h2 : b = d <;> simp [h1, h2]

theorem taken_at {M M' : Mm} {N0 E0 : Int} {ka kb u : Int} (hM : takenM M ka kb u = M') (hN : takenN M ka kb u = N0) (hE : takenE M ka kb u = E0) (v : Value) (w : World) (lo : Nat) (A : Ans lo w v M) :
    Calls Try.prog 21 #[v, .agg #[.int .i64 ka, .int .i64 kb], .int .i64 u] w fun e w' => ∃ v, e = .returned (.tuple #[v, .int .i64 N0, .int .i64 E0]) ∧ Ans w.heap.size w' v M' ∧ Below w.heap.size w w' := by
  subst hM hN hE
  exact taken_any M v ka kb u w lo A
theorem held_at {M M' : Mm} {E0 : Int} {i : Int} (hM : heldM M i = M') (hE : heldE M i = E0) (v : Value) (w : World) (lo : Nat) (A : Ans lo w v M) :
    Calls Try.prog 22 #[v, .int .i64 i] w fun e w' => ∃ v, e = .returned (.tuple #[v, .int .i64 E0]) ∧ Ans w.heap.size w' v M' ∧ Below w.heap.size w w' := by
  subst hM hE
  exact held_any M v i w lo A
theorem let_at {M M' : Mm} {E0 : Int} {i : Int} (hM : letM M i = M') (hE : letE M i = E0) (v : Value) (w : World) (lo : Nat) (A : Ans lo w v M) :
    Calls Try.prog 23 #[v, .int .i64 i] w fun e w' => ∃ v, e = .returned (.tuple #[v, .int .i64 E0]) ∧ Ans w.heap.size w' v M' ∧ Below w.heap.size w w' := by
  subst hM hE
  exact let_any M v i w lo A

def fM1 : Mm := newM 2 1
def fM2 : Mm := takenM fM1 1 0 5
def fM3 : Mm := takenM fM2 2 0 5
def fM4 : Mm := takenM fM3 3 0 5
def fM5 : Mm := letM fM3 1
def fM6 : Mm := takenM fM5 4 0 6
theorem g2 : takenM fM1 1 0 5 = fM2 := rfl
theorem g3 : takenM fM2 2 0 5 = fM3 := rfl
theorem g4 : takenM fM3 3 0 5 = fM4 := rfl
theorem g5 : letM fM3 1 = fM5 := rfl
theorem g6 : takenM fM5 4 0 6 = fM6 := rfl
theorem f2 : takenN fM1 1 0 5 = 0 ∧ takenE fM1 1 0 5 = 0 := by decide
theorem f3 : takenN fM2 2 0 5 = 1 ∧ takenE fM2 2 0 5 = 0 := by decide
theorem f4 : takenN fM3 3 0 5 = 0 ∧ takenE fM3 3 0 5 = 7 := by decide
theorem f5 : letE fM3 1 = 0 := by decide
theorem f6 : takenN fM5 4 0 6 = 1 ∧ takenE fM5 4 0 6 = 0 := by decide
theorem f6s : fM6.slots.length = 2 ∧ (fM6.slots.getD 1 sl0).a = 4 ∧ (fM6.slots.getD 1 sl0).b = 0 := by decide

theorem new21 (w : World) : Calls Try.prog 13 #[.int .i64 2, .int .i64 1] w fun e w' => ∃ v, e = .returned (.tuple #[v, .int .i64 0]) ∧ Ans w.heap.size w' v fM1 ∧ Below w.heap.size w w' := new_ok 2 1 w (by decide) (by decide) (by decide)

set_option maxHeartbeats 3200000 in
theorem filled_any (w : World) : Calls Try.prog 14 #[] w fun e w' => e = .returned (.bool true) ∧ Below w.heap.size w w' := by
  go_enter Try.func14, Try.ntmps14
  go_wp2_with fail
  refine (new21 w).mono ?_
  rintro e w1 ⟨v1, rfl, ⟨aS1, aH1, aF1, aL1, cS1, cH1, cF1, cL1, rfl, A1, hi1⟩, b1⟩
  have HA1 : Hid (Ans w.heap.size (w1.alloc (.cells #[.slice aS1 fM1.slots.length cS1, .slice aH1 fM1.heads.length cH1, .slice aF1 fM1.free.length cF1, .slice aL1 fM1.locks.length cL1, .int .i64 fM1.now] 29)) (.agg #[.slice aS1 fM1.slots.length cS1, .slice aH1 fM1.heads.length cH1, .slice aF1 fM1.free.length cF1, .slice aL1 fM1.locks.length cL1, .int .i64 fM1.now]) fM1) := Ans.below ⟨aS1, aH1, aF1, aL1, cS1, cH1, cF1, cL1, rfl, A1, hi1⟩ (one_below _ _)
  have HB1 : Hid ((w1.alloc (.cells #[.slice aS1 fM1.slots.length cS1, .slice aH1 fM1.heads.length cH1, .slice aF1 fM1.free.length cF1, .slice aL1 fM1.locks.length cL1, .int .i64 fM1.now] 29)).heap[w1.heap.size]? = some (.cells #[.slice aS1 fM1.slots.length cS1, .slice aH1 fM1.heads.length cH1, .slice aF1 fM1.free.length cF1, .slice aL1 fM1.locks.length cL1, .int .i64 fM1.now] 29 (0, 0))) := heap_alloc_new _ _
  have HW1 : Hid (Below w.heap.size w (w1.alloc (.cells #[.slice aS1 fM1.slots.length cS1, .slice aH1 fM1.heads.length cH1, .slice aF1 fM1.free.length cF1, .slice aL1 fM1.locks.length cL1, .int .i64 fM1.now] 29))) := b1.alloc b1.size _
  have s1 := b1.size
  clear A1 hi1 b1
  go_wp2_with fail
  generalize hX1 : w1.alloc (.cells #[.slice aS1 fM1.slots.length cS1, .slice aH1 fM1.heads.length cH1, .slice aF1 fM1.free.length cF1, .slice aL1 fM1.locks.length cL1, .int .i64 fM1.now] 29) = X1 at *
  clear hX1
  refine (taken_at g2 f2.1 f2.2 _ X1 _ HA1.out).mono ?_
  rintro e w2 ⟨v2, rfl, ⟨aS2, aH2, aF2, aL2, cS2, cH2, cF2, cL2, rfl, A2, hi2⟩, b2⟩
  have k2 := (b2.block w1.heap.size (lt_of_block HB1.out)).trans HB1.out
  have HA2 : Hid (Ans X1.heap.size (set5 w2 w1.heap.size (.slice aS2 fM2.slots.length cS2) (.slice aH2 fM2.heads.length cH2) (.slice aF2 fM2.free.length cF2) (.slice aL2 fM2.locks.length cL2) (.int .i64 fM2.now)) (.agg #[.slice aS2 fM2.slots.length cS2, .slice aH2 fM2.heads.length cH2, .slice aF2 fM2.free.length cF2, .slice aL2 fM2.locks.length cL2, .int .i64 fM2.now]) fM2) := Ans.off ⟨aS2, aH2, aF2, aL2, cS2, cH2, cF2, cL2, rfl, A2, hi2⟩ (lt_of_block HB1.out) (fun k hk => set5_other hk)
  have HB2 : Hid ((set5 w2 w1.heap.size (.slice aS2 fM2.slots.length cS2) (.slice aH2 fM2.heads.length cH2) (.slice aF2 fM2.free.length cF2) (.slice aL2 fM2.locks.length cL2) (.int .i64 fM2.now)).heap[w1.heap.size]? = some (.cells #[.slice aS2 fM2.slots.length cS2, .slice aH2 fM2.heads.length cH2, .slice aF2 fM2.free.length cF2, .slice aL2 fM2.locks.length cL2, .int .i64 fM2.now] 29 (0, 0))) := set5_block k2 _ _ _ _ _
  have HW2 : Hid (Below w.heap.size w (set5 w2 w1.heap.size (.slice aS2 fM2.slots.length cS2) (.slice aH2 fM2.heads.length cH2) (.slice aF2 fM2.free.length cF2) (.slice aL2 fM2.locks.length cL2) (.int .i64 fM2.now))) := (HW1.out.trans (b2.mono HW1.out.size)).trans (set5_below _ _ _ _ _ _ _ _ s1)
  obtain ⟨q0, q1, q2, q3, q4, f0, f1, f2, f3, f4, qs⟩ := boxf k2
  clear k2 A2 hi2 HA1 HB1 b2 HW1
  go_wp2_with fail
  rw [show ((((w2.setCell ⟨w1.heap.size, 0, none⟩ (.slice aS2 fM2.slots.length cS2)).setCell ⟨w1.heap.size, 1, none⟩ (.slice aH2 fM2.heads.length cH2)).setCell ⟨w1.heap.size, 2, none⟩ (.slice aF2 fM2.free.length cF2)).setCell ⟨w1.heap.size, 3, none⟩ (.slice aL2 fM2.locks.length cL2)).setCell ⟨w1.heap.size, 4, none⟩ (.int .i64 fM2.now) = set5 w2 w1.heap.size (.slice aS2 fM2.slots.length cS2) (.slice aH2 fM2.heads.length cH2) (.slice aF2 fM2.free.length cF2) (.slice aL2 fM2.locks.length cL2) (.int .i64 fM2.now) from rfl]
  generalize hX2 : set5 w2 w1.heap.size (.slice aS2 fM2.slots.length cS2) (.slice aH2 fM2.heads.length cH2) (.slice aF2 fM2.free.length cF2) (.slice aL2 fM2.locks.length cL2) (.int .i64 fM2.now) = X2 at *
  clear hX2 q0 q1 q2 q3 q4 f0 f1 f2 f3 f4 qs
  refine (taken_at g3 f3.1 f3.2 _ X2 _ HA2.out).mono ?_
  rintro e w3 ⟨v3, rfl, ⟨aS3, aH3, aF3, aL3, cS3, cH3, cF3, cL3, rfl, A3, hi3⟩, b3⟩
  have k3 := (b3.block w1.heap.size (lt_of_block HB2.out)).trans HB2.out
  have HA3 : Hid (Ans X2.heap.size (set5 w3 w1.heap.size (.slice aS3 fM3.slots.length cS3) (.slice aH3 fM3.heads.length cH3) (.slice aF3 fM3.free.length cF3) (.slice aL3 fM3.locks.length cL3) (.int .i64 fM3.now)) (.agg #[.slice aS3 fM3.slots.length cS3, .slice aH3 fM3.heads.length cH3, .slice aF3 fM3.free.length cF3, .slice aL3 fM3.locks.length cL3, .int .i64 fM3.now]) fM3) := Ans.off ⟨aS3, aH3, aF3, aL3, cS3, cH3, cF3, cL3, rfl, A3, hi3⟩ (lt_of_block HB2.out) (fun k hk => set5_other hk)
  have HB3 : Hid ((set5 w3 w1.heap.size (.slice aS3 fM3.slots.length cS3) (.slice aH3 fM3.heads.length cH3) (.slice aF3 fM3.free.length cF3) (.slice aL3 fM3.locks.length cL3) (.int .i64 fM3.now)).heap[w1.heap.size]? = some (.cells #[.slice aS3 fM3.slots.length cS3, .slice aH3 fM3.heads.length cH3, .slice aF3 fM3.free.length cF3, .slice aL3 fM3.locks.length cL3, .int .i64 fM3.now] 29 (0, 0))) := set5_block k3 _ _ _ _ _
  have HW3 : Hid (Below w.heap.size w (set5 w3 w1.heap.size (.slice aS3 fM3.slots.length cS3) (.slice aH3 fM3.heads.length cH3) (.slice aF3 fM3.free.length cF3) (.slice aL3 fM3.locks.length cL3) (.int .i64 fM3.now))) := (HW2.out.trans (b3.mono HW2.out.size)).trans (set5_below _ _ _ _ _ _ _ _ s1)
  obtain ⟨q0, q1, q2, q3, q4, f0, f1, f2, f3, f4, qs⟩ := boxf k3
  clear k3 A3 hi3 HA2 HB2 b3 HW2
  go_wp2_with fail
  rw [show ((((w3.setCell ⟨w1.heap.size, 0, none⟩ (.slice aS3 fM3.slots.length cS3)).setCell ⟨w1.heap.size, 1, none⟩ (.slice aH3 fM3.heads.length cH3)).setCell ⟨w1.heap.size, 2, none⟩ (.slice aF3 fM3.free.length cF3)).setCell ⟨w1.heap.size, 3, none⟩ (.slice aL3 fM3.locks.length cL3)).setCell ⟨w1.heap.size, 4, none⟩ (.int .i64 fM3.now) = set5 w3 w1.heap.size (.slice aS3 fM3.slots.length cS3) (.slice aH3 fM3.heads.length cH3) (.slice aF3 fM3.free.length cF3) (.slice aL3 fM3.locks.length cL3) (.int .i64 fM3.now) from rfl]
  generalize hX3 : set5 w3 w1.heap.size (.slice aS3 fM3.slots.length cS3) (.slice aH3 fM3.heads.length cH3) (.slice aF3 fM3.free.length cF3) (.slice aL3 fM3.locks.length cL3) (.int .i64 fM3.now) = X3 at *
  clear hX3 q0 q1 q2 q3 q4 f0 f1 f2 f3 f4 qs
  refine (taken_at g4 f4.1 f4.2 _ X3 _ HA3.out).mono ?_
  rintro e w4 ⟨v4, rfl, ⟨aS4, aH4, aF4, aL4, cS4, cH4, cF4, cL4, rfl, A4, hi4⟩, b4⟩
  have b4' := b4.alloc (b4.size) (.cells #[.slice aS4 fM4.slots.length cS4, .slice aH4 fM4.heads.length cH4, .slice aF4 fM4.free.length cF4, .slice aL4 fM4.locks.length cL4, .int .i64 fM4.now] 29)
  have HA4 : Hid (Ans _ (w4.alloc (.cells #[.slice aS4 fM4.slots.length cS4, .slice aH4 fM4.heads.length cH4, .slice aF4 fM4.free.length cF4, .slice aL4 fM4.locks.length cL4, .int .i64 fM4.now] 29)) (.agg #[.slice aS3 fM3.slots.length cS3, .slice aH3 fM3.heads.length cH3, .slice aF3 fM3.free.length cF3, .slice aL3 fM3.locks.length cL3, .int .i64 fM3.now]) fM3) := HA3.out.below b4'
  have HB4 : Hid ((w4.alloc (.cells #[.slice aS4 fM4.slots.length cS4, .slice aH4 fM4.heads.length cH4, .slice aF4 fM4.free.length cF4, .slice aL4 fM4.locks.length cL4, .int .i64 fM4.now] 29)).heap[w1.heap.size]? = some (.cells #[.slice aS3 fM3.slots.length cS3, .slice aH3 fM3.heads.length cH3, .slice aF3 fM3.free.length cF3, .slice aL3 fM3.locks.length cL3, .int .i64 fM3.now] 29 (0, 0))) := (b4'.block w1.heap.size (lt_of_block HB3.out)).trans HB3.out
  have HW4 : Hid (Below w.heap.size w (w4.alloc (.cells #[.slice aS4 fM4.slots.length cS4, .slice aH4 fM4.heads.length cH4, .slice aF4 fM4.free.length cF4, .slice aL4 fM4.locks.length cL4, .int .i64 fM4.now] 29))) := HW3.out.trans (b4'.mono HW3.out.size)
  have k4 := (b4.block w1.heap.size (lt_of_block HB3.out)).trans HB3.out
  obtain ⟨q0, q1, q2, q3, q4, f0, f1, f2, f3, f4, qs⟩ := boxf k4
  clear A4 hi4 b4 b4' HA3 HB3 HW3 k4
  go_wp2_with fail
  generalize hX4 : w4.alloc (.cells #[.slice aS4 fM4.slots.length cS4, .slice aH4 fM4.heads.length cH4, .slice aF4 fM4.free.length cF4, .slice aL4 fM4.locks.length cL4, .int .i64 fM4.now] 29) = X4 at *
  clear hX4 q0 q1 q2 q3 q4 f0 f1 f2 f3 f4 qs
  refine (let_at g5 f5 _ X4 _ HA4.out).mono ?_
  rintro e w5 ⟨v5, rfl, ⟨aS5, aH5, aF5, aL5, cS5, cH5, cF5, cL5, rfl, A5, hi5⟩, b5⟩
  have k5 := (b5.block w1.heap.size (lt_of_block HB4.out)).trans HB4.out
  have HA5 : Hid (Ans X4.heap.size (set5 w5 w1.heap.size (.slice aS5 fM5.slots.length cS5) (.slice aH5 fM5.heads.length cH5) (.slice aF5 fM5.free.length cF5) (.slice aL5 fM5.locks.length cL5) (.int .i64 fM5.now)) (.agg #[.slice aS5 fM5.slots.length cS5, .slice aH5 fM5.heads.length cH5, .slice aF5 fM5.free.length cF5, .slice aL5 fM5.locks.length cL5, .int .i64 fM5.now]) fM5) := Ans.off ⟨aS5, aH5, aF5, aL5, cS5, cH5, cF5, cL5, rfl, A5, hi5⟩ (lt_of_block HB4.out) (fun k hk => set5_other hk)
  have HB5 : Hid ((set5 w5 w1.heap.size (.slice aS5 fM5.slots.length cS5) (.slice aH5 fM5.heads.length cH5) (.slice aF5 fM5.free.length cF5) (.slice aL5 fM5.locks.length cL5) (.int .i64 fM5.now)).heap[w1.heap.size]? = some (.cells #[.slice aS5 fM5.slots.length cS5, .slice aH5 fM5.heads.length cH5, .slice aF5 fM5.free.length cF5, .slice aL5 fM5.locks.length cL5, .int .i64 fM5.now] 29 (0, 0))) := set5_block k5 _ _ _ _ _
  have HW5 : Hid (Below w.heap.size w (set5 w5 w1.heap.size (.slice aS5 fM5.slots.length cS5) (.slice aH5 fM5.heads.length cH5) (.slice aF5 fM5.free.length cF5) (.slice aL5 fM5.locks.length cL5) (.int .i64 fM5.now))) := (HW4.out.trans (b5.mono HW4.out.size)).trans (set5_below _ _ _ _ _ _ _ _ s1)
  obtain ⟨q0, q1, q2, q3, q4, f0, f1, f2, f3, f4, qs⟩ := boxf k5
  clear k5 A5 hi5 HA4 HB4 b5 HW4
  go_wp2_with fail
  rw [show ((((w5.setCell ⟨w1.heap.size, 0, none⟩ (.slice aS5 fM5.slots.length cS5)).setCell ⟨w1.heap.size, 1, none⟩ (.slice aH5 fM5.heads.length cH5)).setCell ⟨w1.heap.size, 2, none⟩ (.slice aF5 fM5.free.length cF5)).setCell ⟨w1.heap.size, 3, none⟩ (.slice aL5 fM5.locks.length cL5)).setCell ⟨w1.heap.size, 4, none⟩ (.int .i64 fM5.now) = set5 w5 w1.heap.size (.slice aS5 fM5.slots.length cS5) (.slice aH5 fM5.heads.length cH5) (.slice aF5 fM5.free.length cF5) (.slice aL5 fM5.locks.length cL5) (.int .i64 fM5.now) from rfl]
  generalize hX5 : set5 w5 w1.heap.size (.slice aS5 fM5.slots.length cS5) (.slice aH5 fM5.heads.length cH5) (.slice aF5 fM5.free.length cF5) (.slice aL5 fM5.locks.length cL5) (.int .i64 fM5.now) = X5 at *
  clear hX5 q0 q1 q2 q3 q4 f0 f1 f2 f3 f4 qs
  refine (taken_at g6 f6.1 f6.2 _ X5 _ HA5.out).mono ?_
  rintro e w6 ⟨v6, rfl, ⟨aS6, aH6, aF6, aL6, cS6, cH6, cF6, cL6, rfl, A6, hi6⟩, b6⟩
  have k6 := (b6.block w1.heap.size (lt_of_block HB5.out)).trans HB5.out
  have HA6 : Hid (Ans X5.heap.size (set5 w6 w1.heap.size (.slice aS6 fM6.slots.length cS6) (.slice aH6 fM6.heads.length cH6) (.slice aF6 fM6.free.length cF6) (.slice aL6 fM6.locks.length cL6) (.int .i64 fM6.now)) (.agg #[.slice aS6 fM6.slots.length cS6, .slice aH6 fM6.heads.length cH6, .slice aF6 fM6.free.length cF6, .slice aL6 fM6.locks.length cL6, .int .i64 fM6.now]) fM6) := Ans.off ⟨aS6, aH6, aF6, aL6, cS6, cH6, cF6, cL6, rfl, A6, hi6⟩ (lt_of_block HB5.out) (fun k hk => set5_other hk)
  have HB6 : Hid ((set5 w6 w1.heap.size (.slice aS6 fM6.slots.length cS6) (.slice aH6 fM6.heads.length cH6) (.slice aF6 fM6.free.length cF6) (.slice aL6 fM6.locks.length cL6) (.int .i64 fM6.now)).heap[w1.heap.size]? = some (.cells #[.slice aS6 fM6.slots.length cS6, .slice aH6 fM6.heads.length cH6, .slice aF6 fM6.free.length cF6, .slice aL6 fM6.locks.length cL6, .int .i64 fM6.now] 29 (0, 0))) := set5_block k6 _ _ _ _ _
  have HW6 : Hid (Below w.heap.size w (set5 w6 w1.heap.size (.slice aS6 fM6.slots.length cS6) (.slice aH6 fM6.heads.length cH6) (.slice aF6 fM6.free.length cF6) (.slice aL6 fM6.locks.length cL6) (.int .i64 fM6.now))) := (HW5.out.trans (b6.mono HW5.out.size)).trans (set5_below _ _ _ _ _ _ _ _ s1)
  obtain ⟨q0, q1, q2, q3, q4, f0, f1, f2, f3, f4, qs⟩ := boxf k6
  have tX : w1.heap.size < X5.heap.size := lt_of_block HB5.out
  clear HA5 HB5 HW5 HA6 HB6 k6 b6
  have h2 := f6s.1
  rcases A6.s.at_ with h0 | ⟨b, o, rfl, hc⟩
  · rw [h2] at h0; cases h0
  have hi1 : 1 < fM6.slots.length := by rw [h2]; decide
  have hg : fM6.slots[1].a = 4 ∧ fM6.slots[1].b = 0 := by
    have := f6s.2
    simp only [List.getD_eq_getElem?_getD, List.getElem?_eq_getElem hi1, Option.getD_some] at this
    exact this
  have c1 : w6.cell? ⟨b, o + 7, none⟩ = some (.int .i64 4) := by
    have := (hc 1 hi1).2.1
    rw [hg.1] at this
    exact this
  have c2 : w6.cell? ⟨b, o + 8, none⟩ = some (.int .i64 0) := by
    have := (hc 1 hi1).2.2.1
    rw [hg.2] at this
    exact this
  have hb : w1.heap.size ≤ b := by
    have := hi6.s _ rfl
    dsimp only at this
    omega
  have hb1 : b ≠ w1.heap.size := by
    have := hi6.s _ rfl
    dsimp only at this
    omega
  have hb2 : w1.heap.size ≠ b := Ne.symm hb1
  clear hc hg hi1 A6 hi6 tX
  have ke := kequal
  go_wp2
  go_ret
  exact ⟨rfl, HW6.out⟩


end Go.Proofs.Ytdbilofhcadmoaa.mm
