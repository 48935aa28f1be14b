/- The closed fact of the statements on chains: one flow in a chain. -/
import Derived.Test.YtdbilofhcadmoaaLinked
import Derived.Test.YtdbilofhcadmoaaWithout
import Derived.Test.YtdbilofhcadmoaaEqF
import Derived.Test.YtdbilofhcadmoaaFilled
namespace Go.Proofs.Ytdbilofhcadmoaa.mm
open Go.ChangeShapes Go.WideShapes Go.ChangeAt Go.RowKit Go.Joins Go.Maps
set_option maxRecDepth 100000
set_option linter.unusedVariables false

theorem linked_at {M M' : Mm} {E0 : Int} {a : Int} (hM : linkedM M a = M') (hE : linkE M a = E0) (v : Value) (w : World) (lo : Nat) (A : Ans lo w v M) :
    Calls Try.prog 41 #[v, .int .i64 a] w fun e w' => ∃ v, e = .returned (.tuple #[v, .int .i64 E0]) ∧ Ans w.heap.size w' v M' ∧ Below w.heap.size w w' := by
  subst hM hE
  obtain ⟨aS, aH, aF, aL, cS, cH, cF, cL, rfl, A, hi⟩ := A
  exact linked_any M _ _ _ _ _ _ _ _ a w A
theorem without_at {M M' : Mm} {N0 E0 : Int} {ka kb : Int} (hM : withoutM M ka kb = M') (hN : withoutN M ka kb = N0) (hE : withoutE M ka kb = E0) (v : Value) (w : World) (lo : Nat) (A : Ans lo w v M) :
    Calls Try.prog 42 #[v, .agg #[.int .i64 ka, .int .i64 kb]] w fun e w' => ∃ v, e = .returned (.tuple #[v, .int .i64 N0, .int .i64 E0]) ∧ Ans w.heap.size w' v M' ∧ Below w.heap.size w w' := by
  subst hM hE hN
  obtain ⟨aS, aH, aF, aL, cS, cH, cF, cL, rfl, A, hi⟩ := A
  exact without_any M _ _ _ _ _ _ _ _ ka kb w A
theorem flows_at {M : Mm} {L : List Fl} {E0 : Int} (hL : flowsM M = L) (hE : chkC M = E0) (v : Value) (w : World) (lo : Nat) (A : Ans lo w v M) :
    Calls Try.prog 34 #[v] w fun e w' => ∃ ao cap, e = .returned (.tuple #[.slice ao L.length cap, .int .i64 E0]) ∧ FRow w' ao cap L ∧ Below w.heap.size w w' := by
  subst hL hE
  obtain ⟨aS, aH, aF, aL, cS, cH, cF, cL, rfl, A, hi⟩ := A
  exact flows_any M _ _ _ _ _ _ _ _ w A
theorem slots_at {M : Mm} {L : List Int} {E0 b : Int} (hL : slotsCL M b = L) (hE : slotsCE M b = E0) (v : Value) (w : World) (lo : Nat) (A : Ans lo w v M) :
    Calls Try.prog 33 #[v, .int .i64 b] w fun e w' => ∃ ao cap, e = .returned (.tuple #[.slice ao L.length cap, .int .i64 E0]) ∧ IRow w' ao cap L ∧ Below w.heap.size w w' := by
  subst hL hE
  obtain ⟨aS, aH, aF, aL, cS, cH, cF, cL, rfl, A, hi⟩ := A
  exact chainSlots_any M _ _ _ _ _ _ _ _ b w A
theorem chainCheck_at {M : Mm} {E0 : Int} (hE : chkC M = E0) (v : Value) (w : World) (lo : Nat) (A : Ans lo w v M) :
    Calls Try.prog 37 #[v] w fun e w' => e = .returned (.int .i64 E0) ∧ Below w.heap.size w w' := by
  subst hE
  obtain ⟨aS, aH, aF, aL, cS, cH, cF, cL, rfl, A, hi⟩ := A
  exact chainCheck_any M _ _ _ _ _ _ _ _ w A

def cM1 : Mm := newM 2 2
def cM2 : Mm := takenM cM1 1 2 5
def cM3 : Mm := linkedM cM2 0
def cM5 : Mm := withoutM cM3 1 2
theorem cg2 : takenM cM1 1 2 5 = cM2 := rfl
theorem cg3 : linkedM cM2 0 = cM3 := rfl
theorem cg5 : withoutM cM3 1 2 = cM5 := rfl
theorem cf2 : takenN cM1 1 2 5 = 0 ∧ takenE cM1 1 2 5 = 0 := by decide
theorem cf3 : linkE cM2 0 = 0 := by decide
theorem cf4 : chkC cM3 = 0 := by decide
theorem cl4 : flowsM cM3 = [⟨1, 2, 0, 5⟩] := by
  unfold flowsM
  rw [if_pos cf4, show allC cM3 = [0] by decide]
  rfl
theorem cf5 : withoutN cM3 1 2 = 0 ∧ withoutE cM3 1 2 = 0 := by decide
theorem cf6 : slotsCE cM5 1 = 0 := by decide
theorem cl6 : slotsCL cM5 1 = [] := by decide
theorem cf5s : cM5.slots.length = 2 ∧ (cM5.slots.getD 0 sl0).inn = true ∧ (cM5.slots.getD 0 sl0).next = -2 := by decide

theorem new22 (w : World) : Calls Try.prog 13 #[.int .i64 2, .int .i64 2] w fun e w' => ∃ v, e = .returned (.tuple #[v, .int .i64 0]) ∧ Ans w.heap.size w' v cM1 ∧ Below w.heap.size w w' := new_ok 2 2 w (by decide) (by decide) (by decide)

set_option maxHeartbeats 6400000 in
theorem chained_any (w : World) : Calls Try.prog 36 #[] w fun e w' => e = .returned (.bool true) ∧ Below w.heap.size w w' := by
  go_enter Try.func36, Try.ntmps36
  go_wp2_with fail
  refine (new22 w).mono ?_
  rintro e w1 ⟨v1, rfl, ⟨aS1, aH1, aF1, aL1, cS1, cH1, cF1, cL1, rfl, A1, hi1⟩, b1⟩
  have HA1 : Hid (Ans w.heap.size (w1.alloc (.cells #[.slice aS1 cM1.slots.length cS1, .slice aH1 cM1.heads.length cH1, .slice aF1 cM1.free.length cF1, .slice aL1 cM1.locks.length cL1, .int .i64 cM1.now] 29)) (.agg #[.slice aS1 cM1.slots.length cS1, .slice aH1 cM1.heads.length cH1, .slice aF1 cM1.free.length cF1, .slice aL1 cM1.locks.length cL1, .int .i64 cM1.now]) cM1) := Ans.below ⟨aS1, aH1, aF1, aL1, cS1, cH1, cF1, cL1, rfl, A1, hi1⟩ (one_below _ _)
  have HB1 : Hid ((w1.alloc (.cells #[.slice aS1 cM1.slots.length cS1, .slice aH1 cM1.heads.length cH1, .slice aF1 cM1.free.length cF1, .slice aL1 cM1.locks.length cL1, .int .i64 cM1.now] 29)).heap[w1.heap.size]? = some (.cells #[.slice aS1 cM1.slots.length cS1, .slice aH1 cM1.heads.length cH1, .slice aF1 cM1.free.length cF1, .slice aL1 cM1.locks.length cL1, .int .i64 cM1.now] 29 (0, 0))) := heap_alloc_new _ _
  have HW1 : Hid (Below w.heap.size w (w1.alloc (.cells #[.slice aS1 cM1.slots.length cS1, .slice aH1 cM1.heads.length cH1, .slice aF1 cM1.free.length cF1, .slice aL1 cM1.locks.length cL1, .int .i64 cM1.now] 29))) := b1.alloc b1.size _
  have s1 := b1.size
  clear A1 hi1 b1
  go_wp2_with fail
  generalize hX1 : w1.alloc (.cells #[.slice aS1 cM1.slots.length cS1, .slice aH1 cM1.heads.length cH1, .slice aF1 cM1.free.length cF1, .slice aL1 cM1.locks.length cL1, .int .i64 cM1.now] 29) = X1 at *
  clear hX1
  refine (taken_at cg2 cf2.1 cf2.2 _ X1 _ HA1.out).mono ?_
  rintro e w2 ⟨v2, rfl, ⟨aS2, aH2, aF2, aL2, cS2, cH2, cF2, cL2, rfl, A2, hi2⟩, b2⟩
  have k2 := (b2.block w1.heap.size (lt_of_block HB1.out)).trans HB1.out
  have HA2 : Hid (Ans X1.heap.size (set5 w2 w1.heap.size (.slice aS2 cM2.slots.length cS2) (.slice aH2 cM2.heads.length cH2) (.slice aF2 cM2.free.length cF2) (.slice aL2 cM2.locks.length cL2) (.int .i64 cM2.now)) (.agg #[.slice aS2 cM2.slots.length cS2, .slice aH2 cM2.heads.length cH2, .slice aF2 cM2.free.length cF2, .slice aL2 cM2.locks.length cL2, .int .i64 cM2.now]) cM2) := Ans.off ⟨aS2, aH2, aF2, aL2, cS2, cH2, cF2, cL2, rfl, A2, hi2⟩ (lt_of_block HB1.out) (fun k hk => set5_other hk)
  have HB2 : Hid ((set5 w2 w1.heap.size (.slice aS2 cM2.slots.length cS2) (.slice aH2 cM2.heads.length cH2) (.slice aF2 cM2.free.length cF2) (.slice aL2 cM2.locks.length cL2) (.int .i64 cM2.now)).heap[w1.heap.size]? = some (.cells #[.slice aS2 cM2.slots.length cS2, .slice aH2 cM2.heads.length cH2, .slice aF2 cM2.free.length cF2, .slice aL2 cM2.locks.length cL2, .int .i64 cM2.now] 29 (0, 0))) := set5_block k2 _ _ _ _ _
  have HW2 : Hid (Below w.heap.size w (set5 w2 w1.heap.size (.slice aS2 cM2.slots.length cS2) (.slice aH2 cM2.heads.length cH2) (.slice aF2 cM2.free.length cF2) (.slice aL2 cM2.locks.length cL2) (.int .i64 cM2.now))) := (HW1.out.trans (b2.mono HW1.out.size)).trans (set5_below _ _ _ _ _ _ _ _ s1)
  obtain ⟨q0, q1, q2, q3, q4, f0, f1, f2, f3, f4, qs⟩ := boxf k2
  clear k2 A2 hi2 HA1 HB1 b2 HW1
  go_wp2_with fail
  rw [show ((((w2.setCell ⟨w1.heap.size, 0, none⟩ (.slice aS2 cM2.slots.length cS2)).setCell ⟨w1.heap.size, 1, none⟩ (.slice aH2 cM2.heads.length cH2)).setCell ⟨w1.heap.size, 2, none⟩ (.slice aF2 cM2.free.length cF2)).setCell ⟨w1.heap.size, 3, none⟩ (.slice aL2 cM2.locks.length cL2)).setCell ⟨w1.heap.size, 4, none⟩ (.int .i64 cM2.now) = set5 w2 w1.heap.size (.slice aS2 cM2.slots.length cS2) (.slice aH2 cM2.heads.length cH2) (.slice aF2 cM2.free.length cF2) (.slice aL2 cM2.locks.length cL2) (.int .i64 cM2.now) from rfl]
  generalize hX2 : set5 w2 w1.heap.size (.slice aS2 cM2.slots.length cS2) (.slice aH2 cM2.heads.length cH2) (.slice aF2 cM2.free.length cF2) (.slice aL2 cM2.locks.length cL2) (.int .i64 cM2.now) = X2 at *
  clear hX2 q0 q1 q2 q3 q4 f0 f1 f2 f3 f4 qs
  refine (linked_at cg3 cf3 _ X2 _ HA2.out).mono ?_
  rintro e w3 ⟨v3, rfl, ⟨aS3, aH3, aF3, aL3, cS3, cH3, cF3, cL3, rfl, A3, hi3⟩, b3⟩
  have k3 := (b3.block w1.heap.size (lt_of_block HB2.out)).trans HB2.out
  have HA3 : Hid (Ans X2.heap.size (set5 w3 w1.heap.size (.slice aS3 cM3.slots.length cS3) (.slice aH3 cM3.heads.length cH3) (.slice aF3 cM3.free.length cF3) (.slice aL3 cM3.locks.length cL3) (.int .i64 cM3.now)) (.agg #[.slice aS3 cM3.slots.length cS3, .slice aH3 cM3.heads.length cH3, .slice aF3 cM3.free.length cF3, .slice aL3 cM3.locks.length cL3, .int .i64 cM3.now]) cM3) := Ans.off ⟨aS3, aH3, aF3, aL3, cS3, cH3, cF3, cL3, rfl, A3, hi3⟩ (lt_of_block HB2.out) (fun k hk => set5_other hk)
  have HB3 : Hid ((set5 w3 w1.heap.size (.slice aS3 cM3.slots.length cS3) (.slice aH3 cM3.heads.length cH3) (.slice aF3 cM3.free.length cF3) (.slice aL3 cM3.locks.length cL3) (.int .i64 cM3.now)).heap[w1.heap.size]? = some (.cells #[.slice aS3 cM3.slots.length cS3, .slice aH3 cM3.heads.length cH3, .slice aF3 cM3.free.length cF3, .slice aL3 cM3.locks.length cL3, .int .i64 cM3.now] 29 (0, 0))) := set5_block k3 _ _ _ _ _
  have HW3 : Hid (Below w.heap.size w (set5 w3 w1.heap.size (.slice aS3 cM3.slots.length cS3) (.slice aH3 cM3.heads.length cH3) (.slice aF3 cM3.free.length cF3) (.slice aL3 cM3.locks.length cL3) (.int .i64 cM3.now))) := (HW2.out.trans (b3.mono HW2.out.size)).trans (set5_below _ _ _ _ _ _ _ _ s1)
  obtain ⟨q0, q1, q2, q3, q4, f0, f1, f2, f3, f4, qs⟩ := boxf k3
  clear k3 A3 hi3 HA2 HB2 b3 HW2
  go_wp2_with fail
  rw [show ((((w3.setCell ⟨w1.heap.size, 0, none⟩ (.slice aS3 cM3.slots.length cS3)).setCell ⟨w1.heap.size, 1, none⟩ (.slice aH3 cM3.heads.length cH3)).setCell ⟨w1.heap.size, 2, none⟩ (.slice aF3 cM3.free.length cF3)).setCell ⟨w1.heap.size, 3, none⟩ (.slice aL3 cM3.locks.length cL3)).setCell ⟨w1.heap.size, 4, none⟩ (.int .i64 cM3.now) = set5 w3 w1.heap.size (.slice aS3 cM3.slots.length cS3) (.slice aH3 cM3.heads.length cH3) (.slice aF3 cM3.free.length cF3) (.slice aL3 cM3.locks.length cL3) (.int .i64 cM3.now) from rfl]
  generalize hX3 : set5 w3 w1.heap.size (.slice aS3 cM3.slots.length cS3) (.slice aH3 cM3.heads.length cH3) (.slice aF3 cM3.free.length cF3) (.slice aL3 cM3.locks.length cL3) (.int .i64 cM3.now) = X3 at *
  clear hX3 q0 q1 q2 q3 q4 f0 f1 f2 f3 f4 qs
  refine (flows_at cl4 cf4 _ X3 _ HA3.out).mono ?_
  rintro e w4 ⟨ao4, cap4, rfl, hrow4, b4⟩
  have HF4 : Hid (FRow w4 ao4 cap4 [⟨1, 2, 0, 5⟩]) := hrow4
  have HA4 : Hid (Ans X2.heap.size w4 (.agg #[.slice aS3 cM3.slots.length cS3, .slice aH3 cM3.heads.length cH3, .slice aF3 cM3.free.length cF3, .slice aL3 cM3.locks.length cL3, .int .i64 cM3.now]) cM3) := Ans.below HA3.out b4
  have HB4 : Hid (w4.heap[w1.heap.size]? = some (.cells #[.slice aS3 cM3.slots.length cS3, .slice aH3 cM3.heads.length cH3, .slice aF3 cM3.free.length cF3, .slice aL3 cM3.locks.length cL3, .int .i64 cM3.now] 29 (0, 0))) := (b4.block w1.heap.size (lt_of_block HB3.out)).trans HB3.out
  have HW4 : Hid (Below w.heap.size w w4) := HW3.out.trans (b4.mono HW3.out.size)
  obtain ⟨q0, q1, q2, q3, q4, f0, f1, f2, f3, f4, qs⟩ := boxf HB4.out
  clear hrow4 b4 HA3 HB3 HW3 f0 f1 f2 f3 f4
  go_wp2_with fail
  refine (without_at cg5 cf5.1 cf5.2 _ w4 _ HA4.out).mono ?_
  rintro e w5 ⟨v5, rfl, ⟨aS5, aH5, aF5, aL5, cS5, cH5, cF5, cL5, rfl, A5, hi5⟩, b5⟩
  have HA5 : Hid (Ans w4.heap.size (w5.alloc (.cells #[.slice aS5 cM5.slots.length cS5, .slice aH5 cM5.heads.length cH5, .slice aF5 cM5.free.length cF5, .slice aL5 cM5.locks.length cL5, .int .i64 cM5.now] 29)) (.agg #[.slice aS5 cM5.slots.length cS5, .slice aH5 cM5.heads.length cH5, .slice aF5 cM5.free.length cF5, .slice aL5 cM5.locks.length cL5, .int .i64 cM5.now]) cM5) := Ans.below ⟨aS5, aH5, aF5, aL5, cS5, cH5, cF5, cL5, rfl, A5, hi5⟩ (one_below _ _)
  have HB5 : Hid ((w5.alloc (.cells #[.slice aS5 cM5.slots.length cS5, .slice aH5 cM5.heads.length cH5, .slice aF5 cM5.free.length cF5, .slice aL5 cM5.locks.length cL5, .int .i64 cM5.now] 29)).heap[w5.heap.size]? = some (.cells #[.slice aS5 cM5.slots.length cS5, .slice aH5 cM5.heads.length cH5, .slice aF5 cM5.free.length cF5, .slice aL5 cM5.locks.length cL5, .int .i64 cM5.now] 29 (0, 0))) := heap_alloc_new _ _
  have HW5 : Hid (Below w.heap.size w (w5.alloc (.cells #[.slice aS5 cM5.slots.length cS5, .slice aH5 cM5.heads.length cH5, .slice aF5 cM5.free.length cF5, .slice aL5 cM5.locks.length cL5, .int .i64 cM5.now] 29))) := (HW4.out.trans (b5.mono HW4.out.size)).alloc (Nat.le_trans HW4.out.size b5.size) _
  have HF5 : Hid (FRow (w5.alloc (.cells #[.slice aS5 cM5.slots.length cS5, .slice aH5 cM5.heads.length cH5, .slice aF5 cM5.free.length cF5, .slice aL5 cM5.locks.length cL5, .int .i64 cM5.now] 29)) ao4 cap4 [⟨1, 2, 0, 5⟩]) := (HF4.out.below b5).below (one_below _ _)
  clear A5 hi5 b5 HA4 HB4 HW4 HF4 q0 q1 q2 q3 q4 qs
  go_wp2_with fail
  generalize hX5 : w5.alloc (.cells #[.slice aS5 cM5.slots.length cS5, .slice aH5 cM5.heads.length cH5, .slice aF5 cM5.free.length cF5, .slice aL5 cM5.locks.length cL5, .int .i64 cM5.now] 29) = X5 at *
  clear hX5
  refine (slots_at cl6 cf6 _ X5 _ HA5.out).mono ?_
  rintro e w6 ⟨ao6, cap6, rfl, -, b6⟩
  have HF6 : Hid (FRow w6 ao4 cap4 [⟨1, 2, 0, 5⟩]) := HF5.out.below b6
  have HA6 : Hid (Ans w4.heap.size w6 (.agg #[.slice aS5 cM5.slots.length cS5, .slice aH5 cM5.heads.length cH5, .slice aF5 cM5.free.length cF5, .slice aL5 cM5.locks.length cL5, .int .i64 cM5.now]) cM5) := Ans.below HA5.out b6
  have HB6 : Hid (w6.heap[w5.heap.size]? = some (.cells #[.slice aS5 cM5.slots.length cS5, .slice aH5 cM5.heads.length cH5, .slice aF5 cM5.free.length cF5, .slice aL5 cM5.locks.length cL5, .int .i64 cM5.now] 29 (0, 0))) := (b6.block w5.heap.size (lt_of_block HB5.out)).trans HB5.out
  have HW6 : Hid (Below w.heap.size w w6) := HW5.out.trans (b6.mono HW5.out.size)
  clear b6 HA5 HB5 HW5 HF5
  have HN7 : Hid (FRow (w6.alloc (.cells #[.int .i64 1, .int .i64 2, .int .i64 0, .int .i64 5] 65)) (some ⟨w6.heap.size, 0, none⟩) 1 [⟨1, 2, 0, 5⟩]) := by
    refine .mk_cells (by decide) (by decide) fun j hj => ?_
    have hj4 : j < 4 := by simpa using hj
    match j, hj4 with
    | 0, _ => simp [encF, Fl.enc]
    | 1, _ => simp [encF, Fl.enc]
    | 2, _ => simp [encF, Fl.enc]
    | 3, _ => simp [encF, Fl.enc]
  have HF7 : Hid _ := HF6.out.below (one_below w6 (.cells #[.int .i64 1, .int .i64 2, .int .i64 0, .int .i64 5] 65))
  have HA7 : Hid (Ans w4.heap.size (w6.alloc (.cells #[.int .i64 1, .int .i64 2, .int .i64 0, .int .i64 5] 65)) (.agg #[.slice aS5 cM5.slots.length cS5, .slice aH5 cM5.heads.length cH5, .slice aF5 cM5.free.length cF5, .slice aL5 cM5.locks.length cL5, .int .i64 cM5.now]) cM5) := Ans.below HA6.out (one_below _ _)
  have HB7 : Hid ((w6.alloc (.cells #[.int .i64 1, .int .i64 2, .int .i64 0, .int .i64 5] 65)).heap[w5.heap.size]? = some (.cells #[.slice aS5 cM5.slots.length cS5, .slice aH5 cM5.heads.length cH5, .slice aF5 cM5.free.length cF5, .slice aL5 cM5.locks.length cL5, .int .i64 cM5.now] 29 (0, 0))) := (Below.heap_alloc _ _ _ (lt_of_block HB6.out)).trans HB6.out
  have HW7 : Hid (Below w.heap.size w (w6.alloc (.cells #[.int .i64 1, .int .i64 2, .int .i64 0, .int .i64 5] 65))) := HW6.out.alloc HW6.out.size _
  clear HA6 HB6 HW6 HF6
  go_wp2_with fail
  generalize hX7 : w6.alloc (.cells #[.int .i64 1, .int .i64 2, .int .i64 0, .int .i64 5] 65) = X7 at *
  clear hX7
  refine (equalF_any ao4 (some ⟨w6.heap.size, 0, none⟩) cap4 1 [⟨1, 2, 0, 5⟩] [⟨1, 2, 0, 5⟩] X7 HF7.out HN7.out).mono ?_
  rw [show eqF [⟨1, 2, 0, 5⟩] [⟨1, 2, 0, 5⟩] = true from (eqF_iff _ _).2 rfl]
  rintro e w8 ⟨rfl, b8⟩
  have HW8 : Hid (Below w.heap.size w w8) := HW7.out.trans (b8.mono HW7.out.size)
  have k8 := (b8.block w5.heap.size (lt_of_block HB7.out)).trans HB7.out
  obtain ⟨xS, xH, xF, xL, yS, yH, yF, yL, he8, A8, -⟩ := Ans.below HA7.out b8
  simp only [Value.agg.injEq, Array.mk.injEq, List.cons.injEq, Value.slice.injEq, true_and, and_true] at he8
  obtain ⟨⟨rfl, rfl⟩, -⟩ := he8
  obtain ⟨n5, e5, x5⟩ := cf5s
  rcases A8.s.at_ with h0 | ⟨bs, os, rfl, hcs⟩
  · omega
  obtain ⟨-, -, -, -, c4, c5⟩ := hcs 0 (by omega)
  rw [show cM5.slots[0].inn = true by rw [← e5]; rfl] at c4
  rw [show cM5.slots[0].next = -2 by rw [← x5]; rfl] at c5
  obtain ⟨q0, q1, q2, q3, q4, f0, f1, f2, f3, f4, qs⟩ := boxf k8
  clear k8 A8 hcs HA7 HB7 HW7 HF7 HN7 b8 f0 f1 f2 f3 f4 e5 x5
  have hz : (0 : Int) < (cM5.slots.length : Int) := by omega
  go_wp2
  go_ret
  exact ⟨rfl, HW8.out⟩


end Go.Proofs.Ytdbilofhcadmoaa.mm
