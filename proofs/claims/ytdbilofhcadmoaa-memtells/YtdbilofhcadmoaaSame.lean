/- The contracts of slices.Equal over ints and over slots, and of Same. -/
import Derived.Test.YtdbilofhcadmoaaTaken
import Derived.Deep.QuietTactic
import Derived.BigQuiet
import Derived.Laws.StructEq
namespace Go.Proofs.Ytdbilofhcadmoaa.mm
open Go.ChangeShapes Go.WideShapes Go.ChangeAt Go.RowKit Go.Joins Go.Deep
set_option linter.unusedVariables false

def eqI (l1 l2 : List Int) : Bool := decide (l1 = l2)
def eqS (l1 l2 : List Sl) : Bool := l1.length == l2.length && (l1.zip l2).all fun p => slEq p.1 p.2

theorem eqI_len {l1 l2 : List Int} (h : l1.length ≠ l2.length) : eqI l1 l2 = false := by
  simp only [eqI, decide_eq_false_iff_not]
  rintro rfl
  exact h rfl
theorem eqI_ne {l1 l2 : List Int} {k : Nat} (h1 : k < l1.length) (h2 : k < l2.length) (h : l1[k] ≠ l2[k]) : eqI l1 l2 = false := by
  simp only [eqI, decide_eq_false_iff_not]
  rintro rfl
  exact h rfl
theorem eqI_all {l1 l2 : List Int} (hl : l1.length = l2.length) (h : ∀ j, j < l1.length → l1[j]? = l2[j]?) : eqI l1 l2 = true := by
  simp only [eqI, decide_eq_true_eq]
  apply List.ext_getElem?
  intro j
  by_cases hj : j < l1.length
  · exact h j hj
  · rw [List.getElem?_eq_none (by omega), List.getElem?_eq_none (by omega)]
theorem eqI_iff (l1 l2 : List Int) : eqI l1 l2 = true ↔ l1 = l2 := by simp [eqI]
theorem eqS_iff (l1 l2 : List Sl) : eqS l1 l2 = true ↔ l1 = l2 := by
  induction l1 generalizing l2 with
  | nil => cases l2 <;> simp [eqS]
  | cons x l1 ih =>
    cases l2 with
    | nil => simp [eqS]
    | cons y l2 =>
      have := ih l2
      simp only [eqS, Bool.and_eq_true, beq_iff_eq] at this
      simp only [eqS, List.length_cons, List.zip_cons_cons, List.all_cons, Bool.and_eq_true, beq_iff_eq, slEq_iff, List.cons.injEq, ← this]
      constructor
      · rintro ⟨h1, h2, h3⟩; exact ⟨h2, by omega, h3⟩
      · rintro ⟨h1, h2, h3⟩; exact ⟨by omega, h1, h3⟩
theorem eqS_false {l1 l2 : List Sl} (h : l1 ≠ l2) : eqS l1 l2 = false := by
  rw [Bool.eq_false_iff]
  intro hh
  exact h ((eqS_iff _ _).1 hh)

theorem drewN_below (w : World) (q : Nat) : Below w.heap.size w (w.drewN q) := ⟨rfl, rfl, rfl, Nat.le_refl _, fun _ _ => rfl⟩

theorem ret_bool {a b : Bool} (h : a = b) : Ending.returned (.bool a) = .returned (.bool b) := by rw [h]

set_option maxHeartbeats 1600000 in
theorem equalI_any (a1 a2 : Option Addr) (c1 c2 : Nat) (l1 l2 : List Int) (w : World) (r1 : IRow w a1 c1 l1) (r2 : IRow w a2 c2 l2) :
    Calls Try.prog 12 #[.slice a1 l1.length c1, .slice a2 l2.length c2] w fun e w' => e = .returned (.bool (eqI l1 l2)) ∧ Below w.heap.size w w' := by
  have m1 := r1.max; have m2 := r2.max
  have n1 : l1.length ≤ 9223372036854775807 := by omega
  have n2 : l2.length ≤ 9223372036854775807 := by omega
  by_cases hl : l1.length = l2.length
  rotate_left
  · have HV : Hid (eqI l1 l2 = false) := eqI_len hl
    have hb : ((l1.length : Int) != (l2.length : Int)) = true := by rw [bne_iff_ne]; omega
    go_enter Try.func12, Try.ntmps12
    go_wp2
    go_ret
    exact ⟨ret_bool HV.out.symm, Below.refl _ _⟩
  · have HL : Hid (l1.length = l2.length) := hl
    have hb : ((l1.length : Int) != (l2.length : Int)) = false := by rw [hl]; simp
    clear hl
    have HZ1 : Hid _ := r1.at_
    have HZ2 : Hid _ := r2.at_
    clear r1 r2
    go_enter Try.func12, Try.ntmps12
    go_wp2
    go_loopw [13] (fun i wr => ∃ k q : Nat, k ≤ l1.length ∧ i = .int .i64 k ∧ wr = w.drewN q ∧ Hid (∀ j, j < k → l1[j]? = l2[j]?)) (fun i _ => l1.length - (intOf i).toNat)
    case atStart => exact ⟨0, 0, Nat.zero_le _, rfl, rfl, fun j hj => absurd hj (Nat.not_lt_zero _)⟩
    case round =>
      obtain ⟨k, q, hk, rfl, rfl, HE⟩ := hrel
      by_cases hlt : k < l1.length
      · have hlt2 : k < l2.length := by have := HL.out; omega
        rcases HZ1.out with h0 | ⟨b1, o1, rfl, hc1⟩
        · omega
        rcases HZ2.out with h0 | ⟨b2, o2, rfl, hc2⟩
        · omega
        have d1 : (w.drewN q).cell? ⟨b1, o1 + k, none⟩ = some (.int .i64 l1[k]) := hc1 k hlt
        have d2 : (w.drewN q).cell? ⟨b2, o2 + k, none⟩ = some (.int .i64 l2[k]) := hc2 k hlt2
        clear hc1 hc2
        generalize hwq : w.drewN q = wq at d1 d2 ⊢
        have HWQ : Hid _ := hwq
        clear hwq
        generalize hx : l1[k] = x at d1
        generalize hy : l2[k] = y at d2
        have HX : Hid (l1[k] = x ∧ l2[k] = y) := ⟨hx, hy⟩
        clear hx hy
        by_cases hxy : x = y
        · subst hxy
          have HV : Hid (∀ j, j < k + 1 → l1[j]? = l2[j]?) := fun j hj => by
            by_cases e : j = k
            · subst e
              rw [List.getElem?_eq_getElem hlt, List.getElem?_eq_getElem hlt2, HX.out.1, HX.out.2]
            · exact HE.out j (by omega)
          go_wp2_with fail
          go_quiet (fail)
          go_wp2
          go_roundw
          case rel => exact ⟨k + 1, q + nq, by omega, by go_num, by rw [← HWQ.out, World.drewN_drewN], HV⟩
          case measure => simp [intOf]; omega
        · have HV : Hid (eqI l1 l2 = false) := eqI_ne hlt hlt2 (by rw [HX.out.1, HX.out.2]; exact hxy)
          have hn : (x != y) = true := by simpa using hxy
          go_wp2_with fail
          go_quiet (fail)
          go_wp2
          go_ret
          exact ⟨ret_bool HV.out.symm, by rw [← HWQ.out, World.drewN_drewN]; exact drewN_below _ _⟩
      · have HV : Hid (eqI l1 l2 = true) := eqI_all HL.out (fun j hj => HE.out j (by omega))
        go_wp2
        go_ret
        exact ⟨ret_bool HV.out.symm, drewN_below _ _⟩

theorem kequal9 (a b c d : Int) (w : World) : (Op.equalIn 9999 37 (.agg #[.int .i64 a, .int .i64 b]) (.agg #[.int .i64 c, .int .i64 d])).run Try.prog w = .ok (a == c && b == d) w := by
  have u3 := Try.underlying3
  have a3 := Try.isAgg3
  have z3 := Try.sizeOf3
  have hS : Try.prog.underlying 37 = some (.struct (Try.prog.fieldsOf 37)) := by kernel_rfl
  have hp : Try.prog.stoodInHeld 37 = false := by kernel_rfl
  rw [show (9999 : Nat) = 9998 + 1 from rfl, run_equalIn_agg w 9998 37 _ _ hS hp]
  simp only [Program.fieldsOf, Try.underlying37]
  go_simp
  by_cases h1 : a = c <;> by_cases h2 : b = d <;> simp [h1, h2]

theorem sequal (x y : Sl) (w : World) : (Op.equalIn 10000 48 (.agg #[.int .i64 x.refs, .int .i64 x.a, .int .i64 x.b, .int .i64 x.unt, .bool x.inn, .int .i64 x.next]) (.agg #[.int .i64 y.refs, .int .i64 y.a, .int .i64 y.b, .int .i64 y.unt, .bool y.inn, .int .i64 y.next])).run Try.prog w = .ok (slEq x y) w := by
  have u3 := Try.underlying3
  have a3 := Try.isAgg3
  have z3 := Try.sizeOf3
  have u4 := Try.underlying4
  have a4 := Try.isAgg4
  have z4 := Try.sizeOf4
  have a37 := Try.isAgg37
  have z37 := Try.sizeOf37
  have k9 := kequal9
  have hS : Try.prog.underlying 48 = some (.struct (Try.prog.fieldsOf 48)) := by kernel_rfl
  have hp : Try.prog.stoodInHeld 48 = false := by kernel_rfl
  rw [show (10000 : Nat) = 9999 + 1 from rfl, run_equalIn_agg w 9999 48 _ _ hS hp]
  simp only [Program.fieldsOf, Try.underlying48]
  clear hS
  go_simp
  unfold slEq
  by_cases h1 : x.refs = y.refs <;> by_cases h2 : x.a = y.a <;> by_cases h3 : x.b = y.b <;> by_cases h4 : x.unt = y.unt <;> by_cases h5 : x.inn = y.inn <;> by_cases h6 : x.next = y.next <;> simp [h1, h2, h3, h4, h5, h6]

theorem eqS_ne {l1 l2 : List Sl} {k : Nat} (h1 : k < l1.length) (h2 : k < l2.length) (h : l1[k] ≠ l2[k]) : eqS l1 l2 = false :=
  eqS_false (by rintro rfl; exact h rfl)
theorem eqS_all {l1 l2 : List Sl} (hl : l1.length = l2.length) (h : ∀ j, j < l1.length → l1[j]? = l2[j]?) : eqS l1 l2 = true := by
  rw [eqS_iff]
  apply List.ext_getElem?
  intro j
  by_cases hj : j < l1.length
  · exact h j hj
  · rw [List.getElem?_eq_none (by omega), List.getElem?_eq_none (by omega)]

set_option maxHeartbeats 3200000 in
theorem equalS_any (a1 a2 : Option Addr) (c1 c2 : Nat) (l1 l2 : List Sl) (w : World) (r1 : SRow w a1 c1 l1) (r2 : SRow w a2 c2 l2) :
    Calls Try.prog 61 #[.slice a1 l1.length c1, .slice a2 l2.length c2] w fun e w' => e = .returned (.bool (eqS l1 l2)) ∧ Below w.heap.size w w' := by
  have m1 := r1.max; have m2 := r2.max
  have n1 : l1.length ≤ 9223372036854775807 := by omega
  have n2 : l2.length ≤ 9223372036854775807 := by omega
  by_cases hl : l1.length = l2.length
  rotate_left
  · have HV : Hid (eqS l1 l2 = false) := eqS_false (by rintro rfl; exact hl rfl)
    have hb : ((l1.length : Int) != (l2.length : Int)) = true := by rw [bne_iff_ne]; omega
    go_enter Try.func61, Try.ntmps61
    go_wp2
    go_ret
    exact ⟨ret_bool HV.out.symm, Below.refl _ _⟩
  · have HL : Hid (l1.length = l2.length) := hl
    have hb : ((l1.length : Int) != (l2.length : Int)) = false := by rw [hl]; simp
    clear hl
    have HZ1 : Hid _ := r1.at_
    have HZ2 : Hid _ := r2.at_
    clear r1 r2
    go_enter Try.func61, Try.ntmps61
    go_wp2
    go_loopw [13] (fun i wr => ∃ k q : Nat, k ≤ l1.length ∧ i = .int .i64 k ∧ wr = w.drewN q ∧ Hid (∀ j, j < k → l1[j]? = l2[j]?)) (fun i _ => l1.length - (intOf i).toNat)
    case atStart => exact ⟨0, 0, Nat.zero_le _, rfl, rfl, fun j hj => absurd hj (Nat.not_lt_zero _)⟩
    case round =>
      obtain ⟨k, q, hk, rfl, rfl, HE⟩ := hrel
      by_cases hlt : k < l1.length
      · have hlt2 : k < l2.length := by have := HL.out; omega
        rcases HZ1.out with h0 | ⟨b1, o1, rfl, hc1⟩
        · omega
        rcases HZ2.out with h0 | ⟨b2, o2, rfl, hc2⟩
        · omega
        obtain ⟨x0, x1, x2, x3, x4, x5⟩ := hc1 k hlt
        obtain ⟨y0, y1, y2, y3, y4, y5⟩ := hc2 k hlt2
        rw [← World.cell?_drewN (n := q)] at x0 x1 x2 x3 x4 x5 y0 y1 y2 y3 y4 y5
        clear hc1 hc2
        generalize hwq : w.drewN q = wq at x0 x1 x2 x3 x4 x5 y0 y1 y2 y3 y4 y5 ⊢
        have HWQ : Hid _ := hwq
        clear hwq
        generalize hx : l1[k] = x at x0 x1 x2 x3 x4 x5
        generalize hy : l2[k] = y at y0 y1 y2 y3 y4 y5
        have HX : Hid (l1[k] = x ∧ l2[k] = y) := ⟨hx, hy⟩
        clear hx hy
        have se := sequal x y
        cases hxy : slEq x y
        · have HV : Hid (eqS l1 l2 = false) := eqS_ne hlt hlt2 (by rw [HX.out.1, HX.out.2]; intro e; rw [e, slEq_refl] at hxy; cases hxy)
          go_wp2_with fail
          go_quiet (fail)
          go_wp2
          go_ret
          exact ⟨ret_bool HV.out.symm, by rw [← HWQ.out, World.drewN_drewN]; exact drewN_below _ _⟩
        · have HV : Hid (∀ j, j < k + 1 → l1[j]? = l2[j]?) := fun j hj => by
            by_cases e : j = k
            · subst e
              rw [List.getElem?_eq_getElem hlt, List.getElem?_eq_getElem hlt2, HX.out.1, HX.out.2, (slEq_iff x y).1 hxy]
            · exact HE.out j (by omega)
          go_wp2_with fail
          go_quiet (fail)
          go_wp2
          go_roundw
          case rel => exact ⟨k + 1, q + nq, by omega, by go_num, by rw [← HWQ.out, World.drewN_drewN], HV⟩
          case measure => simp [intOf]; omega
      · have HV : Hid (eqS l1 l2 = true) := eqS_all HL.out (fun j hj => HE.out j (by omega))
        go_wp2
        go_ret
        exact ⟨ret_bool HV.out.symm, drewN_below _ _⟩


end Go.Proofs.Ytdbilofhcadmoaa.mm
