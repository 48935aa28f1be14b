/- Lists of flows held against each other. -/
import Derived.Test.YtdbilofhcadmoaaFlow
import Derived.Test.YtdbilofhcadmoaaSame
import Derived.Deep.QuietTactic
import Derived.BigQuiet
namespace Go.Proofs.Ytdbilofhcadmoaa.mm
open Go.ChangeShapes Go.WideShapes Go.ChangeAt Go.RowKit
set_option maxRecDepth 100000
set_option linter.unusedVariables false

def flEq (x y : Fl) : Bool := x.a == y.a && (x.b == y.b && (x.slot == y.slot && x.unt == y.unt))
theorem flEq_iff (x y : Fl) : flEq x y = true ↔ x = y := by
  cases x; cases y; simp [flEq]
theorem flEq_refl (x : Fl) : flEq x x = true := (flEq_iff x x).2 rfl
def eqF (l1 l2 : List Fl) : Bool := l1.length == l2.length && (l1.zip l2).all fun p => flEq p.1 p.2
theorem eqF_iff (l1 l2 : List Fl) : eqF l1 l2 = true ↔ l1 = l2 := by
  induction l1 generalizing l2 with
  | nil => cases l2 <;> simp [eqF]
  | cons x l1 ih =>
    cases l2 with
    | nil => simp [eqF]
    | cons y l2 =>
      have := ih l2
      simp only [eqF, Bool.and_eq_true, beq_iff_eq] at this
      simp only [eqF, List.length_cons, List.zip_cons_cons, List.all_cons, Bool.and_eq_true, beq_iff_eq, flEq_iff, List.cons.injEq, ← this]
      constructor
      · rintro ⟨h1, h2, h3⟩; exact ⟨h2, by omega, h3⟩
      · rintro ⟨h1, h2, h3⟩; exact ⟨by omega, h1, h3⟩
theorem eqF_false {l1 l2 : List Fl} (h : l1 ≠ l2) : eqF l1 l2 = false := by
  rw [Bool.eq_false_iff]
  intro hh
  exact h ((eqF_iff _ _).1 hh)


theorem fequal (x y : Fl) (w : World) : (Op.equalIn 10000 65 (.agg #[.int .i64 x.a, .int .i64 x.b, .int .i64 x.slot, .int .i64 x.unt]) (.agg #[.int .i64 y.a, .int .i64 y.b, .int .i64 y.slot, .int .i64 y.unt])).run Try.prog w = .ok (flEq x y) w := by
  have u3 := Try.underlying3
  have a3 := Try.isAgg3
  have z3 := Try.sizeOf3
  have a37 := Try.isAgg37
  have z37 := Try.sizeOf37
  have k9 := kequal9
  have hS : Try.prog.underlying 65 = some (.struct (Try.prog.fieldsOf 65)) := by kernel_rfl
  have hp : Try.prog.stoodInHeld 65 = false := by kernel_rfl
  rw [show (10000 : Nat) = 9999 + 1 from rfl, run_equalIn_agg w 9999 65 _ _ hS hp]
  simp only [Program.fieldsOf, Try.underlying65]
  clear hS
  go_simp
  unfold flEq
  by_cases h1 : x.a = y.a <;> by_cases h2 : x.b = y.b <;> by_cases h3 : x.slot = y.slot <;> by_cases h4 : x.unt = y.unt <;> simp [h1, h2, h3, h4]

theorem eqF_ne {l1 l2 : List Fl} {k : Nat} (h1 : k < l1.length) (h2 : k < l2.length) (h : l1[k] ≠ l2[k]) : eqF l1 l2 = false :=
  eqF_false (by rintro rfl; exact h rfl)
theorem eqF_all {l1 l2 : List Fl} (hl : l1.length = l2.length) (h : ∀ j, j < l1.length → l1[j]? = l2[j]?) : eqF l1 l2 = true := by
  rw [eqF_iff]
  apply List.ext_getElem?
  intro j
  by_cases hj : j < l1.length
  · exact h j hj
  · rw [List.getElem?_eq_none (by omega), List.getElem?_eq_none (by omega)]

set_option maxHeartbeats 3200000 in
theorem equalF_any (a1 a2 : Option Addr) (c1 c2 : Nat) (l1 l2 : List Fl) (w : World) (r1 : FRow w a1 c1 l1) (r2 : FRow w a2 c2 l2) :
    Calls Try.prog 38 #[.slice a1 l1.length c1, .slice a2 l2.length c2] w fun e w' => e = .returned (.bool (eqF l1 l2)) ∧ Below w.heap.size w w' := by
  have m1 := r1.max; have m2 := r2.max
  have n1 : l1.length ≤ 9223372036854775807 := by omega
  have n2 : l2.length ≤ 9223372036854775807 := by omega
  by_cases hl : l1.length = l2.length
  rotate_left
  · have HV : Hid (eqF l1 l2 = false) := eqF_false (by rintro rfl; exact hl rfl)
    have hb : ((l1.length : Int) != (l2.length : Int)) = true := by rw [bne_iff_ne]; omega
    go_enter Try.func38, Try.ntmps38
    go_wp2
    go_ret
    exact ⟨ret_bool HV.out.symm, Below.refl _ _⟩
  · have HL : Hid (l1.length = l2.length) := hl
    have hb : ((l1.length : Int) != (l2.length : Int)) = false := by rw [hl]; simp
    clear hl
    have HZ1 : Hid _ := r1.at_
    have HZ2 : Hid _ := r2.at_
    clear r1 r2
    go_enter Try.func38, Try.ntmps38
    go_wp2
    go_loopw [13] (fun i wr => ∃ k q : Nat, k ≤ l1.length ∧ i = .int .i64 k ∧ wr = w.drewN q ∧ Hid (∀ j, j < k → l1[j]? = l2[j]?)) (fun i _ => l1.length - (intOf i).toNat)
    case atStart => exact ⟨0, 0, Nat.zero_le _, rfl, rfl, fun j hj => absurd hj (Nat.not_lt_zero _)⟩
    case round =>
      obtain ⟨k, q, hk, rfl, rfl, HE⟩ := hrel
      by_cases hlt : k < l1.length
      · have hlt2 : k < l2.length := by have := HL.out; omega
        rcases HZ1.out with h0 | ⟨b1, o1, rfl, hc1⟩
        · omega
        rcases HZ2.out with h0 | ⟨b2, o2, rfl, hc2⟩
        · omega
        obtain ⟨x0, x1, x2, x3⟩ := hc1 k hlt
        obtain ⟨y0, y1, y2, y3⟩ := hc2 k hlt2
        rw [← World.cell?_drewN (n := q)] at x0 x1 x2 x3 y0 y1 y2 y3
        clear hc1 hc2
        generalize hwq : w.drewN q = wq at x0 x1 x2 x3 y0 y1 y2 y3 ⊢
        have HWQ : Hid _ := hwq
        clear hwq
        generalize hx : l1[k] = x at x0 x1 x2 x3
        generalize hy : l2[k] = y at y0 y1 y2 y3
        have HX : Hid (l1[k] = x ∧ l2[k] = y) := ⟨hx, hy⟩
        clear hx hy
        have se := fequal x y
        cases hxy : flEq x y
        · have HV : Hid (eqF l1 l2 = false) := eqF_ne hlt hlt2 (by rw [HX.out.1, HX.out.2]; intro e; rw [e, flEq_refl] at hxy; cases hxy)
          go_wp2_with fail
          go_quiet (fail)
          go_wp2
          go_ret
          exact ⟨ret_bool HV.out.symm, by rw [← HWQ.out, World.drewN_drewN]; exact drewN_below _ _⟩
        · have HV : Hid (∀ j, j < k + 1 → l1[j]? = l2[j]?) := fun j hj => by
            by_cases e : j = k
            · subst e
              rw [List.getElem?_eq_getElem hlt, List.getElem?_eq_getElem hlt2, HX.out.1, HX.out.2, (flEq_iff x y).1 hxy]
            · exact HE.out j (by omega)
          go_wp2_with fail
          go_quiet (fail)
          go_wp2
          go_roundw
          case rel => exact ⟨k + 1, q + nq, by omega, by go_num, by rw [← HWQ.out, World.drewN_drewN], HV⟩
          case measure => simp [intOf]; omega
      · have HV : Hid (eqF l1 l2 = true) := eqF_all HL.out (fun j hj => HE.out j (by omega))
        go_wp2
        go_ret
        exact ⟨ret_bool HV.out.symm, drewN_below _ _⟩


end Go.Proofs.Ytdbilofhcadmoaa.mm
