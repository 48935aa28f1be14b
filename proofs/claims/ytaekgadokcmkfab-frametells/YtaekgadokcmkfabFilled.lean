/- The closed fact filled: it holds in every world. -/
import Derived.Test.YtaekgadokcmkfabNew
namespace Go.Proofs.Ytaekgadokcmkfab.mm
open Go.ChangeShapes Go.WideShapes Go.ChangeAt Go.RowKit Go.Joins
set_option linter.unusedVariables false

theorem kequal (a b c d : Int) (w : World) : (Op.equalIn 10000 37 (.agg #[.int .i64 a, .int .i64 b]) (.agg #[.int .i64 c, .int .i64 d])).run Try.prog w = .ok (a == c && b == d) w := by
  have u3 := Try.underlying3
  have a3 := Try.isAgg3
  have z3 := Try.sizeOf3
  have hS : Try.prog.underlying 37 = some (.struct (Try.prog.fieldsOf 37)) := by kernel_rfl
  have hp : Try.prog.stoodInHeld 37 = false := by kernel_rfl
  rw [show (10000 : Nat) = 9999 + 1 from rfl, run_equalIn_agg w 9999 37 _ _ hS hp]
  simp only [Program.fieldsOf, Try.underlying37]
  go_simp
  by_cases h1 : a = c <;> by_cases h2 : b = d <;> simp [h1, h2]

theorem taken_at {M M' : Mm} {N0 E0 : Int} {ka kb u : Int} (hM : takenM M ka kb u = M') (hN : takenN M ka kb u = N0) (hE : takenE M ka kb u = E0) (v : Value) (w : World) (lo : Nat) (A : Ans lo w v M) :
    Calls Try.prog 45 #[v, .agg #[.int .i64 ka, .int .i64 kb], .int .i64 u] w fun e w' => ∃ v, e = .returned (.tuple #[v, .int .i64 N0, .int .i64 E0]) ∧ Ans w.heap.size w' v M' ∧ Below w.heap.size w w' := by
  subst hM hN hE
  exact taken_any M v ka kb u w lo A
theorem let_at {M M' : Mm} {E0 : Int} {i : Int} (hM : letM M i = M') (hE : letE M i = E0) (v : Value) (w : World) (lo : Nat) (A : Ans lo w v M) :
    Calls Try.prog 41 #[v, .int .i64 i] w fun e w' => ∃ v, e = .returned (.tuple #[v, .int .i64 E0]) ∧ Ans w.heap.size w' v M' ∧ Below w.heap.size w w' := by
  subst hM hE
  exact let_any M v i w lo A

def fM1 : Mm := newM 2 1
def fM2 : Mm := takenM fM1 1 0 5
def fM3 : Mm := takenM fM2 2 0 5
def fM4 : Mm := takenM fM3 3 0 5
def fM5 : Mm := letM fM3 1
def fM6 : Mm := takenM fM5 4 0 6
theorem g2 : takenM fM1 1 0 5 = fM2 := rfl
theorem g3 : takenM fM2 2 0 5 = fM3 := rfl
theorem g4 : takenM fM3 3 0 5 = fM4 := rfl
theorem g5 : letM fM3 1 = fM5 := rfl
theorem g6 : takenM fM5 4 0 6 = fM6 := rfl
theorem f2 : takenN fM1 1 0 5 = 0 ∧ takenE fM1 1 0 5 = 0 := by decide
theorem f3 : takenN fM2 2 0 5 = 1 ∧ takenE fM2 2 0 5 = 0 := by decide
theorem f4 : takenN fM3 3 0 5 = 0 ∧ takenE fM3 3 0 5 = 7 := by decide
theorem f5 : letE fM3 1 = 0 := by decide
theorem f6 : takenN fM5 4 0 6 = 1 ∧ takenE fM5 4 0 6 = 0 := by decide
theorem f6s : fM6.slots.length = 2 ∧ (fM6.slots.getD 1 sl0).a = 4 ∧ (fM6.slots.getD 1 sl0).b = 0 := by decide

theorem new21 (w : World) : Calls Try.prog 44 #[.int .i64 2, .int .i64 1] w fun e w' => ∃ v, e = .returned (.tuple #[v, .int .i64 0]) ∧ Ans w.heap.size w' v fM1 ∧ Below w.heap.size w w' := new_ok 2 1 w (by decide) (by decide) (by decide)

end Go.Proofs.Ytaekgadokcmkfab.mm
