/- Contracts of the small functions on keys: Check, Turn, endsOf, keyOf, IsKey, BucketOf: each returns what the document says, and changes nothing that was there. -/
import Derived.Test.YtdbilofhcadmoaaDoorRows
import Derived.WalkKit
import Derived.ProofKit
import Derived.OpenShut
import Derived.WalkLawsBesides
import Derived.WalkSpells
namespace Go.Proofs.YtdbilofhcadmoaaDoor.key
open Go.ChangeShapes Go.WideShapes Go.ChangeAt Go.RowKit
set_option linter.unusedVariables false

def okK (a b : Int) : Bool := decide (0 ≤ a ∧ a ≤ 15 ∧ 0 ≤ b ∧ b ≤ 15)
theorem okK_t {a b : Int} (h : okK a b = true) : 0 ≤ a ∧ a ≤ 15 ∧ 0 ≤ b ∧ b ≤ 15 := by simpa [okK] using h
theorem okK_f {a b : Int} (h : okK a b = false) : ¬ (0 ≤ a ∧ a ≤ 15 ∧ 0 ≤ b ∧ b ≤ 15) := by simpa [okK] using h
theorem okK_mk {a b : Int} (h : 0 ≤ a ∧ a ≤ 15 ∧ 0 ≤ b ∧ b ≤ 15) : okK a b = true := by simpa [okK] using h

theorem endsOf_any (a b : Int) (w : World) :
    Calls Tryd.prog 18 #[.agg #[.int .i64 a, .int .i64 b]] w fun e w' => e = .returned (.agg #[.int .i64 a, .int .i64 b]) ∧ (w.alloc (.cells #[.int .i64 a, .int .i64 b] 23)).alloc (.cells #[.int .i64 a, .int .i64 b] 42) = w' := by
  go_enter Tryd.func18, Tryd.ntmps18
  go_wp2
  exact bodyPost_ret (v := .agg #[.int .i64 a, .int .i64 b]) (by simp [results, Tryd.results18, go_sem]) rfl ⟨rfl, rfl⟩

theorem keyOf_any (a b : Int) (w : World) :
    Calls Tryd.prog 19 #[.agg #[.int .i64 a, .int .i64 b]] w fun e w' => e = .returned (.agg #[.int .i64 a, .int .i64 b]) ∧ (w.alloc (.cells #[.int .i64 a, .int .i64 b] 42)).alloc (.cells #[.int .i64 a, .int .i64 b] 23) = w' := by
  go_enter Tryd.func19, Tryd.ntmps19
  go_wp2
  exact bodyPost_ret (v := .agg #[.int .i64 a, .int .i64 b]) (by simp [results, Tryd.results19, go_sem]) rfl ⟨rfl, rfl⟩

theorem turn_any (a b : Int) (w : World) :
    Calls Tryd.prog 12 #[.agg #[.int .i64 a, .int .i64 b]] w fun e w' => e = .returned (.agg #[.int .i64 b, .int .i64 a]) ∧ Below w.heap.size w w' := by
  go_enter Tryd.func12, Tryd.ntmps12
  go_wp2_with (first | (go_at_call 18; refine (endsOf_any _ _ _).mono ?_; rintro e w1 ⟨rfl, rfl⟩) | (go_at_call 19; refine (keyOf_any _ _ _).mono ?_; rintro e w1 ⟨rfl, rfl⟩))
  refine bodyPost_ret (v := .agg #[.int .i64 b, .int .i64 a]) (by simp [results, Tryd.results12, go_sem]) rfl ⟨rfl, ?_⟩
  repeat (first | exact Below.refl _ _ | refine Below.alloc ?_ (by simp <;> omega) _)

theorem check_t (a b : Int) (w : World) (h0 : 0 ≤ a) (h1 : a ≤ 15) (h2 : 0 ≤ b) (h3 : b ≤ 15) :
    Calls Tryd.prog 11 #[.agg #[.int .i64 a, .int .i64 b]] w fun e w' => e = .returned (.int .i64 0) ∧ Below w.heap.size w w' := by
  have i0 : ∀ w, (Instr.index 42 (.agg #[.int .i64 a, .int .i64 b]) (.int .i64 0)).run Tryd.prog w = .ok (.int .i64 a) w := fun _ => by kernel_rfl
  have i1 : ∀ w, (Instr.index 42 (.agg #[.int .i64 a, .int .i64 b]) (.int .i64 1)).run Tryd.prog w = .ok (.int .i64 b) w := fun _ => by kernel_rfl
  go_enter Tryd.func11, Tryd.ntmps11
  go_wp2_with (first | (go_at_call 18; refine (endsOf_any _ _ _).mono ?_; rintro e w1 ⟨rfl, rfl⟩))
  refine wp_loop_rounds 3 ?_
  rw [rounds_succ]
  go_wp2
  rw [rounds_succ]
  go_wp2
  rw [rounds_succ]
  go_wp2
  go_ret
  refine ⟨rfl, ?_⟩
  repeat (first | exact Below.refl _ _ | refine Below.alloc ?_ (by simp <;> omega) _)

theorem check_f (a b : Int) (w : World) (h : okK a b = false) :
    Calls Tryd.prog 11 #[.agg #[.int .i64 a, .int .i64 b]] w fun e w' => e = .returned (.int .i64 3) ∧ Below w.heap.size w w' := by
  have h := okK_f h
  have hc : a < 0 ∨ (0 ≤ a ∧ 15 < a) ∨ (0 ≤ a ∧ a ≤ 15 ∧ b < 0) ∨ (0 ≤ a ∧ a ≤ 15 ∧ 0 ≤ b ∧ 15 < b) := by omega
  clear h
  have i0 : ∀ w, (Instr.index 42 (.agg #[.int .i64 a, .int .i64 b]) (.int .i64 0)).run Tryd.prog w = .ok (.int .i64 a) w := fun _ => by kernel_rfl
  have i1 : ∀ w, (Instr.index 42 (.agg #[.int .i64 a, .int .i64 b]) (.int .i64 1)).run Tryd.prog w = .ok (.int .i64 b) w := fun _ => by kernel_rfl
  rcases hc with h | ⟨h1, h2⟩ | ⟨h1, h2, h3⟩ | ⟨h1, h2, h3, h4⟩
  all_goals
    go_enter Tryd.func11, Tryd.ntmps11
    go_wp2_with (first | (go_at_call 18; refine (endsOf_any _ _ _).mono ?_; rintro e w1 ⟨rfl, rfl⟩))
    refine wp_loop_rounds 3 ?_
    rw [rounds_succ]
    go_wp2
    try (rw [rounds_succ]; go_wp2)
    go_ret
    refine ⟨rfl, ?_⟩
    repeat (first | exact Below.refl _ _ | refine Below.alloc ?_ (by simp <;> omega) _)

theorem isKey_t (a b : Int) (w : World) (h0 : 0 ≤ a) (h1 : a ≤ 15) (h2 : 0 ≤ b) (h3 : b ≤ 15) :
    Calls Tryd.prog 9 #[.agg #[.int .i64 a, .int .i64 b]] w fun e w' => e = .returned (.bool true) ∧ Below w.heap.size w w' := by
  go_enter Tryd.func9, Tryd.ntmps9
  go_wp2
  go_ret
  exact ⟨rfl, (Below.refl _ _).alloc (Nat.le_refl _) _⟩

theorem isKey_f (a b : Int) (w : World) (h : okK a b = false) :
    Calls Tryd.prog 9 #[.agg #[.int .i64 a, .int .i64 b]] w fun e w' => e = .returned (.bool false) ∧ Below w.heap.size w w' := by
  have h := okK_f h
  have hc : a < 0 ∨ (0 ≤ a ∧ 15 < a) ∨ (0 ≤ a ∧ a ≤ 15 ∧ b < 0) ∨ (0 ≤ a ∧ a ≤ 15 ∧ 0 ≤ b ∧ 15 < b) := by omega
  clear h
  rcases hc with h | ⟨h1, h2⟩ | ⟨h1, h2, h3⟩ | ⟨h1, h2, h3, h4⟩
  rotate_left 3
  · have hd : decide (b ≤ 15) = false := by simp; omega
    go_enter Tryd.func9, Tryd.ntmps9
    go_wp2
    go_ret
    exact ⟨rfl, (Below.refl _ _).alloc (Nat.le_refl _) _⟩
  all_goals
    go_enter Tryd.func9, Tryd.ntmps9
    go_wp2
    go_ret
    exact ⟨rfl, (Below.refl _ _).alloc (Nat.le_refl _) _⟩

theorem bucketOf_any (a b n : Int) (w : World) (h0 : 0 ≤ a) (h1 : a ≤ 15) (h2 : 0 ≤ b) (h3 : b ≤ 15) (n0 : 1 ≤ n) (n1 : n ≤ 4) :
    Calls Tryd.prog 14 #[.agg #[.int .i64 a, .int .i64 b], .int .i64 n] w fun e w' => e = .returned (.int .i64 ((7 * a + 3 * b + a * b) % n)) ∧ Below w.heap.size w w' := by
  have hm : (a + 3) * (b + 7) = a * b + 7 * a + 3 * b + 21 := by rw [Int.add_mul, Int.mul_add, Int.mul_add]; omega
  have hab0 : 0 ≤ a * b := Int.mul_nonneg h0 h2
  have hab1 : a * b ≤ 15 * 15 := Int.mul_le_mul h1 h3 h2 (by omega)
  have e1 : wrap64 ((a + 3) * (b + 7)) = a * b + 7 * a + 3 * b + 21 := by rw [hm]; unfold wrap64; omega
  have e2 : wrap64 (a * b + 7 * a + 3 * b + 21 - 21) = 7 * a + 3 * b + a * b := by unfold wrap64; omega
  have e3 : (7 * a + 3 * b + a * b).tmod n = (7 * a + 3 * b + a * b) % n := Int.tmod_eq_emod_of_nonneg (by omega)
  have H1 : Hid (wrap64 (wrap64 ((a + 3) * (b + 7)) - 21) = 7 * a + 3 * b + a * b) := by rw [e1]; exact e2
  clear hm hab0 hab1 e1 e2
  go_enter Tryd.func14, Tryd.ntmps14
  go_wp2
  go_ret
  refine ⟨?_, (Below.refl _ _).alloc (Nat.le_refl _) _⟩
  show Ending.returned (.int .i64 ((wrap64 (wrap64 ((a + 3) * (b + 7)) - 21)).tmod n)) = _
  rw [H1.out, e3]

theorem bucket_ok (a b n : Int) (w : World) (h0 : 0 ≤ a) (h1 : a ≤ 15) (h2 : 0 ≤ b) (h3 : b ≤ 15) (n0 : 1 ≤ n) (n1 : n ≤ 4) :
    Calls Tryd.prog 6 #[.agg #[.int .i64 a, .int .i64 b], .int .i64 n] w fun e w' => e = .returned (.tuple #[.int .i64 ((7 * a + 3 * b + a * b) % n), .int .i64 0]) ∧ Below w.heap.size w w' := by
  have hab0 : 0 ≤ a * b := Int.mul_nonneg h0 h2
  have hab1 : a * b ≤ 15 * 15 := Int.mul_le_mul h1 h3 h2 (by omega)
  have e1 : wrap64 (a * b) = a * b := by unfold wrap64; omega
  have e2 : wrap64 (7 * a + 3 * b + a * b) = 7 * a + 3 * b + a * b := by unfold wrap64; omega
  have e3 : (7 * a + 3 * b + a * b).tmod n = (7 * a + 3 * b + a * b) % n := Int.tmod_eq_emod_of_nonneg (by omega)
  have H1 : Hid ((wrap64 (7 * a + 3 * b + wrap64 (a * b))).tmod n = (7 * a + 3 * b + a * b) % n) := by rw [e1, e2, e3]; trivial
  clear e1 e2 e3 hab0 hab1
  go_enter Tryd.func6, Tryd.ntmps6
  go_wp2_with fail
  refine (check_t _ _ _ h0 h1 h2 h3).mono ?_
  rintro e w1 ⟨rfl, hb1⟩
  have c0 : w1.cell? ⟨w.heap.size, 0, none⟩ = some (.int .i64 a) := (hb1.cell (p := ⟨w.heap.size, 0, none⟩) (by simp)).trans (by simp)
  have c1 : w1.cell? ⟨w.heap.size, 1, none⟩ = some (.int .i64 b) := (hb1.cell (p := ⟨w.heap.size, 1, none⟩) (by simp)).trans (by simp)
  go_wp2
  go_ret2
  refine ⟨?_, ((Below.refl _ _).alloc (Nat.le_refl _) _).trans (hb1.mono (by simp))⟩
  show Ending.returned (.tuple #[.int .i64 ((wrap64 (7 * a + 3 * b + wrap64 (a * b))).tmod n), .int .i64 0]) = _
  rw [H1.out]

theorem bucket_bad (a b n : Int) (w : World) (h : okK a b = false) :
    Calls Tryd.prog 6 #[.agg #[.int .i64 a, .int .i64 b], .int .i64 n] w fun e w' => e = .returned (.tuple #[.int .i64 0, .int .i64 3]) ∧ Below w.heap.size w w' := by
  go_enter Tryd.func6, Tryd.ntmps6
  go_wp2_with (first | (go_at_call 11; refine (check_f _ _ _ h).mono ?_; rintro e w1 ⟨rfl, hb1⟩))
  go_ret2
  exact ⟨rfl, ((Below.refl _ _).alloc (Nat.le_refl _) _).trans (hb1.mono (by simp))⟩

theorem bucket_many (a b n : Int) (w : World) (h0 : 0 ≤ a) (h1 : a ≤ 15) (h2 : 0 ≤ b) (h3 : b ≤ 15) (hn : n < 1 ∨ (1 ≤ n ∧ 4 < n)) :
    Calls Tryd.prog 6 #[.agg #[.int .i64 a, .int .i64 b], .int .i64 n] w fun e w' => e = .returned (.tuple #[.int .i64 0, .int .i64 3]) ∧ Below w.heap.size w w' := by
  rcases hn with hn | ⟨hn, hm⟩
  all_goals
    go_enter Tryd.func6, Tryd.ntmps6
    go_wp2_with (first | (go_at_call 11; refine (check_t _ _ _ h0 h1 h2 h3).mono ?_; rintro e w1 ⟨rfl, hb1⟩))
    go_ret2
    exact ⟨rfl, ((Below.refl _ _).alloc (Nat.le_refl _) _).trans (hb1.mono (by simp))⟩
end Go.Proofs.YtdbilofhcadmoaaDoor.key
