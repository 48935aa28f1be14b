/- The contract of the document's own LookStep: where it stands at something. -/
import Derived.Test.YtdbilofhcadmoabL01
import Derived.BigRegion
namespace Go.Proofs.Ytdbilofhcadmoab.mm
open Go.ChangeShapes Go.WideShapes Go.ChangeAt Go.RowKit Go.Joins Go.Deep Go.Sort
set_option maxRecDepth 100000
set_option linter.unusedVariables false

theorem isSlotE (n : Int) (w : World) {r : Bool} (h : decide (0 < n) = r) : Calls Try.prog 99 #[.int .i64 n] w fun e w' => e = .returned (.bool r) ∧ w = w' := by
  subst h
  go_enter Try.func99, Try.ntmps99
  go_wp2
  go_ret
  exact ⟨rfl, rfl⟩

set_option maxHeartbeats 3200000 in
theorem rstep1true (M : Mm) (c : Cl) (prev slot nn ee : Int) (keys : List (Int × Int)) (B lo : Nat) (aS aH aF aL : Option Addr) (cS cH cF cL : Nat) (aK : Option Addr) (cK : Nat) (w : World) (b : Nat)
    (m : Mine w B lo aS aH aF aL cS cH cF cL M) (HR : Hid (KRow w aK cK keys)) (HZ : Hid (∀ ad, aK = some ad → ¬ Foot B aS aH aF aL ad.block)) (j : Nat) (s : Sl) (hns : M.slots.length ≤ 12) (hj : j < M.slots.length) (hs : s = slotAt M j) (hk : lkK s ⟨c, 1, 0, 0, 0, 0, [], false, 0⟩ = true)
    (HBk : Hid (∀ W : World, Calls Try.prog 32 #[.agg #[.slice aS M.slots.length cS, .slice aH M.heads.length cH, .slice aF M.free.length cF, .slice aL M.locks.length cL, .int .i64 M.now], .agg #[.int .i64 c.kind, .int .i64 c.a, .int .i64 c.b, .int .i64 c.time, .int .i64 c.bk, .int .i64 c.slot]] W fun e w' => e = .returned (.int .i64 (b : Int)) ∧ Below W.heap.size W w')) :
    Calls Try.prog 37 #[.pointer (some ⟨B, 0, none⟩), .agg #[.int .i64 c.kind, .int .i64 c.a, .int .i64 c.b, .int .i64 c.time, .int .i64 c.bk, .int .i64 c.slot, .int .i64 1, .int .i64 ((j : Int) + 1), .int .i64 prev, .int .i64 slot, .int .i64 nn, .slice aK keys.length cK, .bool false, .int .i64 ee]] w fun e w' => Ret w w' e (toF ⟨c, 1, (j : Int) + 1, prev, slot, nn, keys, false, ee⟩ 3) aK cK ∧ Has w' B lo (Up w (Foot B aS aH aF aL)) (M) ∧ Fine w w' (Foot B aS aH aF aL) := by
  have se : ∀ W : World, (Op.equalIn 10000 37 (.agg #[.int .i64 s.a, .int .i64 s.b]) (.agg #[.int .i64 c.a, .int .i64 c.b])).run Try.prog W = .ok true W := fun W => by rw [kequal]; exact congrArg (fun b => Result.ok b W) hk
  clear hk
  obtain ⟨gS, rfl, oS, lS, kS, -⟩ := row_form m.c.s (by omega)
  have HX : Hid (∀ W, Mine W B lo (some ⟨gS, 0, none⟩) aH aF aL cS cH cF cL M → W.cell? ⟨gS, j * 6, none⟩ = some (.int .i64 s.refs) ∧ W.cell? ⟨gS, j * 6 + 1, none⟩ = some (.int .i64 s.a) ∧ W.cell? ⟨gS, j * 6 + 2, none⟩ = some (.int .i64 s.b) ∧
    W.cell? ⟨gS, j * 6 + 3, none⟩ = some (.int .i64 s.unt) ∧ W.cell? ⟨gS, j * 6 + 4, none⟩ = some (.bool s.inn) ∧ W.cell? ⟨gS, j * 6 + 5, none⟩ = some (.int .i64 s.next) ∧ ∀ q, W.frozen? ⟨gS, q, none⟩ = false) := fun W m' => slotAt_cells m'.c.s hj hs
  clear hs
  have hisl : decide (0 < (j : Int) + 1) = true := by rw [decide_eq_true_iff]; omega
  have HI : Hid (∀ W : World, Calls Try.prog 99 #[.int .i64 ((j : Int) + 1)] W fun e w' => e = .returned (.bool true) ∧ W = w') := fun W => isSlotE _ W hisl
  clear hisl
  have hw1 : IntKind.i64.wrap ((j : Int) + 1 - 1) = (j : Int) := by rw [IntKind.wrap_i64]; omega
  have hw2 : wrap64 ((j : Int) + 1 - 1) = (j : Int) := by unfold wrap64; omega
  have hw3 : (j : Int) + 1 - 1 = (j : Int) := by omega
  obtain ⟨of, hof⟩ : ∃ o : Obj, o = .cells #[.int .i64 c.kind, .int .i64 c.a, .int .i64 c.b, .int .i64 c.time, .int .i64 c.bk, .int .i64 c.slot, .int .i64 1, .int .i64 ((j : Int) + 1), .int .i64 prev, .int .i64 slot, .int .i64 nn, .slice aK keys.length cK, .bool false, .int .i64 ee] 51 := ⟨_, rfl⟩
  obtain ⟨oz, hoz⟩ : ∃ o : Obj, o = zeroFr := ⟨_, rfl⟩
  have HE : Hid (Lk w ((w.alloc of).alloc oz) B lo (some ⟨gS, 0, none⟩) aH aF aL cS cH cF cL M ⟨c, 1, ((j : Int) + 1), prev, slot, nn, keys, false, ee⟩ aK cK) := Lk.first m ⟨c, 1, ((j : Int) + 1), prev, slot, nn, keys, false, ee⟩ aK cK hof hoz
  obtain ⟨f0, f1, f2, f3, f4, f5, f6, f7, f8, f9, f10, f11, f12, f13, ff, fs⟩ := framef (show ((w.alloc of).alloc oz).heap[w.heap.size]? = some (.cells #[.int .i64 c.kind, .int .i64 c.a, .int .i64 c.b, .int .i64 c.time, .int .i64 c.bk, .int .i64 c.slot, .int .i64 1, .int .i64 ((j : Int) + 1), .int .i64 prev, .int .i64 slot, .int .i64 nn, .slice aK keys.length cK, .bool false, .int .i64 ee] 51 (0, 0)) from HE.out.fb)
  obtain ⟨q0, q1, q2, q3, q4, -, -, -, -, -, qs⟩ := boxf HE.out.m.box
  unfold zeroFr at hoz
  clear m
  go_enter Try.func37, Try.ntmps37
  go_wp2_with fail
  rw [← hof, ← hoz]
  generalize (w.alloc of).alloc oz = W0 at *
  subst hof hoz
  have cB : ∀ (d : Nat) (os : Array Obj), Calls Try.prog 32 #[.agg #[.slice (some ⟨gS, 0, none⟩) M.slots.length cS, .slice aH M.heads.length cH, .slice aF M.free.length cF, .slice aL M.locks.length cL, .int .i64 M.now], .agg #[.int .i64 c.kind, .int .i64 c.a, .int .i64 c.b, .int .i64 c.time, .int .i64 c.bk, .int .i64 c.slot]] (grow (redrawn W0 d) os) fun e w'' => e = .returned (.int .i64 (b : Int)) ∧ ∃ p : Regrown, w'' = grow (redrawn W0 p.d) p.os := fun d os => Calls.regrown_of (HBk.out _)
  have Q0 := cell_regrown q0; have Q1 := cell_regrown q1; have Q2 := cell_regrown q2; have Q3 := cell_regrown q3; have Q4 := cell_regrown q4
  have F0 := cell_regrown f0; have F1 := cell_regrown f1; have F2 := cell_regrown f2; have F3 := cell_regrown f3; have F4 := cell_regrown f4; have F5 := cell_regrown f5
  clear q0 q1 q2 q3 q4 qs f0 f1 f2 f3 f4 f5 f6 f7 f8 f9 f10 f11 f12 f13 ff fs
  refine wp_region_quiet_below (by kernel_rfl) (by kernel_rfl) ?_
  repeat (quiet_step (first | exact cB _ _))
  refine wpQuiet_nil ?_
  intro _ hw'
  obtain ⟨⟨dq, osq⟩, hw''⟩ := hw'
  subst hw''
  have HE1 : Hid (Lk w (grow (redrawn W0 dq) osq) B lo (some ⟨gS, 0, none⟩) aH aF aL cS cH cF cL M ⟨c, 1, ((j : Int) + 1), prev, slot, nn, keys, false, ee⟩ aK cK) := HE.out.below (below_regrown W0 dq osq)
  generalize grow (redrawn W0 dq) osq = w1 at *
  clear cB Q0 Q1 Q2 Q3 Q4 F0 F1 F2 F3 F4 F5 HE HBk
  obtain ⟨f0, f1, f2, f3, f4, f5, f6, f7, f8, f9, f10, f11, f12, f13, ff, fs⟩ := framef (show w1.heap[w.heap.size]? = some (.cells #[.int .i64 c.kind, .int .i64 c.a, .int .i64 c.b, .int .i64 c.time, .int .i64 c.bk, .int .i64 c.slot, .int .i64 1, .int .i64 ((j : Int) + 1), .int .i64 prev, .int .i64 slot, .int .i64 nn, .slice aK keys.length cK, .bool false, .int .i64 ee] 51 (0, 0)) from HE1.out.fb)
  obtain ⟨q0, q1, q2, q3, q4, -, -, -, -, -, qs⟩ := boxf HE1.out.m.box
  obtain ⟨x0, x1, x2, x3, x4, x5, xf⟩ := HX.out w1 HE1.out.m
  have xs : gS < w1.heap.size := cell_lt x0
  go_wp2_with (go_at_call 99; refine (HI.out _).mono ?_; rintro e w3 ⟨rfl, rfl⟩)
  go_quiet (fail)
  go_wp2_with fail
  have HE2 : Hid (Lk2 w (w1.drewN nq) (Foot B (some ⟨gS, 0, none⟩) aH aF aL) B lo M ⟨c, 1, (j : Int) + 1, prev, slot, nn, keys, false, ee⟩ aK cK) := (HE1.out.below (w2 := w1.drewN nq) ⟨rfl, rfl, rfl, Nat.le_refl _, fun _ _ => rfl⟩).bare
  clear HE1
  refine (rto_any ⟨c, 1, (j : Int) + 1, prev, slot, nn, keys, false, ee⟩ 3 w.heap.size aK cK _ HE2.out.fb).mono ?_
  rintro e w9 ⟨rfl, hf9, hx9⟩
  have HE9 : Hid (Lk2 w w9 (Foot B (some ⟨gS, 0, none⟩) aH aF aL) B lo M (toF ⟨c, 1, (j : Int) + 1, prev, slot, nn, keys, false, ee⟩ 3) aK cK) := HE2.out.to hf9 hx9
  clear HE2 hf9 hx9
  clear q0 q1 q2 q3 q4 qs f0 f1 f2 f3 f4 f5 f6 f7 f8 f9 f10 f11 f12 f13 ff fs
  obtain ⟨g0, g1, g2, g3, g4, g5, g6, g7, g8, g9, g10, g11, g12, g13, gf, gs⟩ := framef HE9.out.zb
  go_wp2
  refine bodyPost_ret (v := .agg #[.int .i64 (toF ⟨c, 1, (j : Int) + 1, prev, slot, nn, keys, false, ee⟩ 3).c.kind, .int .i64 (toF ⟨c, 1, (j : Int) + 1, prev, slot, nn, keys, false, ee⟩ 3).c.a, .int .i64 (toF ⟨c, 1, (j : Int) + 1, prev, slot, nn, keys, false, ee⟩ 3).c.b, .int .i64 (toF ⟨c, 1, (j : Int) + 1, prev, slot, nn, keys, false, ee⟩ 3).c.time, .int .i64 (toF ⟨c, 1, (j : Int) + 1, prev, slot, nn, keys, false, ee⟩ 3).c.bk, .int .i64 (toF ⟨c, 1, (j : Int) + 1, prev, slot, nn, keys, false, ee⟩ 3).c.slot, .int .i64 (toF ⟨c, 1, (j : Int) + 1, prev, slot, nn, keys, false, ee⟩ 3).pl, .int .i64 (toF ⟨c, 1, (j : Int) + 1, prev, slot, nn, keys, false, ee⟩ 3).cur, .int .i64 (toF ⟨c, 1, (j : Int) + 1, prev, slot, nn, keys, false, ee⟩ 3).prev, .int .i64 (toF ⟨c, 1, (j : Int) + 1, prev, slot, nn, keys, false, ee⟩ 3).slot, .int .i64 (toF ⟨c, 1, (j : Int) + 1, prev, slot, nn, keys, false, ee⟩ 3).n, .slice aK (toF ⟨c, 1, (j : Int) + 1, prev, slot, nn, keys, false, ee⟩ 3).keys.length cK, .bool (toF ⟨c, 1, (j : Int) + 1, prev, slot, nn, keys, false, ee⟩ 3).done, .int .i64 (toF ⟨c, 1, (j : Int) + 1, prev, slot, nn, keys, false, ee⟩ 3).e]) (by simp [results, Try.results37, go_sem, toF, g0, g1, g2, g3, g4, g5, g6, g7, g8, g9, g10, g11, g12, g13]) rfl ⟨⟨aK, cK, rfl, HR.out.fine HE9.out.end14.2 HZ.out, (fun ad h => .inl h), fun _ => ⟨rfl, rfl⟩⟩, HE9.out.end14⟩

set_option maxHeartbeats 3200000 in
theorem rstep1false (M : Mm) (c : Cl) (prev slot nn ee : Int) (keys : List (Int × Int)) (B lo : Nat) (aS aH aF aL : Option Addr) (cS cH cF cL : Nat) (aK : Option Addr) (cK : Nat) (w : World) (b : Nat)
    (m : Mine w B lo aS aH aF aL cS cH cF cL M) (HR : Hid (KRow w aK cK keys)) (HZ : Hid (∀ ad, aK = some ad → ¬ Foot B aS aH aF aL ad.block)) (j : Nat) (s : Sl) (hns : M.slots.length ≤ 12) (hj : j < M.slots.length) (hs : s = slotAt M j) (hk : lkK s ⟨c, 1, 0, 0, 0, 0, [], false, 0⟩ = false)
    (HBk : Hid (∀ W : World, Calls Try.prog 32 #[.agg #[.slice aS M.slots.length cS, .slice aH M.heads.length cH, .slice aF M.free.length cF, .slice aL M.locks.length cL, .int .i64 M.now], .agg #[.int .i64 c.kind, .int .i64 c.a, .int .i64 c.b, .int .i64 c.time, .int .i64 c.bk, .int .i64 c.slot]] W fun e w' => e = .returned (.int .i64 (b : Int)) ∧ Below W.heap.size W w')) :
    Calls Try.prog 37 #[.pointer (some ⟨B, 0, none⟩), .agg #[.int .i64 c.kind, .int .i64 c.a, .int .i64 c.b, .int .i64 c.time, .int .i64 c.bk, .int .i64 c.slot, .int .i64 1, .int .i64 ((j : Int) + 1), .int .i64 prev, .int .i64 slot, .int .i64 nn, .slice aK keys.length cK, .bool false, .int .i64 ee]] w fun e w' => Ret w w' e (toF ⟨c, 1, (j : Int) + 1, prev, slot, nn, keys, false, ee⟩ 2) aK cK ∧ Has w' B lo (Up w (Foot B aS aH aF aL)) (M) ∧ Fine w w' (Foot B aS aH aF aL) := by
  have se : ∀ W : World, (Op.equalIn 10000 37 (.agg #[.int .i64 s.a, .int .i64 s.b]) (.agg #[.int .i64 c.a, .int .i64 c.b])).run Try.prog W = .ok false W := fun W => by rw [kequal]; exact congrArg (fun b => Result.ok b W) hk
  clear hk
  obtain ⟨gS, rfl, oS, lS, kS, -⟩ := row_form m.c.s (by omega)
  have HX : Hid (∀ W, Mine W B lo (some ⟨gS, 0, none⟩) aH aF aL cS cH cF cL M → W.cell? ⟨gS, j * 6, none⟩ = some (.int .i64 s.refs) ∧ W.cell? ⟨gS, j * 6 + 1, none⟩ = some (.int .i64 s.a) ∧ W.cell? ⟨gS, j * 6 + 2, none⟩ = some (.int .i64 s.b) ∧
    W.cell? ⟨gS, j * 6 + 3, none⟩ = some (.int .i64 s.unt) ∧ W.cell? ⟨gS, j * 6 + 4, none⟩ = some (.bool s.inn) ∧ W.cell? ⟨gS, j * 6 + 5, none⟩ = some (.int .i64 s.next) ∧ ∀ q, W.frozen? ⟨gS, q, none⟩ = false) := fun W m' => slotAt_cells m'.c.s hj hs
  clear hs
  have hisl : decide (0 < (j : Int) + 1) = true := by rw [decide_eq_true_iff]; omega
  have HI : Hid (∀ W : World, Calls Try.prog 99 #[.int .i64 ((j : Int) + 1)] W fun e w' => e = .returned (.bool true) ∧ W = w') := fun W => isSlotE _ W hisl
  clear hisl
  have hw1 : IntKind.i64.wrap ((j : Int) + 1 - 1) = (j : Int) := by rw [IntKind.wrap_i64]; omega
  have hw2 : wrap64 ((j : Int) + 1 - 1) = (j : Int) := by unfold wrap64; omega
  have hw3 : (j : Int) + 1 - 1 = (j : Int) := by omega
  obtain ⟨of, hof⟩ : ∃ o : Obj, o = .cells #[.int .i64 c.kind, .int .i64 c.a, .int .i64 c.b, .int .i64 c.time, .int .i64 c.bk, .int .i64 c.slot, .int .i64 1, .int .i64 ((j : Int) + 1), .int .i64 prev, .int .i64 slot, .int .i64 nn, .slice aK keys.length cK, .bool false, .int .i64 ee] 51 := ⟨_, rfl⟩
  obtain ⟨oz, hoz⟩ : ∃ o : Obj, o = zeroFr := ⟨_, rfl⟩
  have HE : Hid (Lk w ((w.alloc of).alloc oz) B lo (some ⟨gS, 0, none⟩) aH aF aL cS cH cF cL M ⟨c, 1, ((j : Int) + 1), prev, slot, nn, keys, false, ee⟩ aK cK) := Lk.first m ⟨c, 1, ((j : Int) + 1), prev, slot, nn, keys, false, ee⟩ aK cK hof hoz
  obtain ⟨f0, f1, f2, f3, f4, f5, f6, f7, f8, f9, f10, f11, f12, f13, ff, fs⟩ := framef (show ((w.alloc of).alloc oz).heap[w.heap.size]? = some (.cells #[.int .i64 c.kind, .int .i64 c.a, .int .i64 c.b, .int .i64 c.time, .int .i64 c.bk, .int .i64 c.slot, .int .i64 1, .int .i64 ((j : Int) + 1), .int .i64 prev, .int .i64 slot, .int .i64 nn, .slice aK keys.length cK, .bool false, .int .i64 ee] 51 (0, 0)) from HE.out.fb)
  obtain ⟨q0, q1, q2, q3, q4, -, -, -, -, -, qs⟩ := boxf HE.out.m.box
  unfold zeroFr at hoz
  clear m
  go_enter Try.func37, Try.ntmps37
  go_wp2_with fail
  rw [← hof, ← hoz]
  generalize (w.alloc of).alloc oz = W0 at *
  subst hof hoz
  have cB : ∀ (d : Nat) (os : Array Obj), Calls Try.prog 32 #[.agg #[.slice (some ⟨gS, 0, none⟩) M.slots.length cS, .slice aH M.heads.length cH, .slice aF M.free.length cF, .slice aL M.locks.length cL, .int .i64 M.now], .agg #[.int .i64 c.kind, .int .i64 c.a, .int .i64 c.b, .int .i64 c.time, .int .i64 c.bk, .int .i64 c.slot]] (grow (redrawn W0 d) os) fun e w'' => e = .returned (.int .i64 (b : Int)) ∧ ∃ p : Regrown, w'' = grow (redrawn W0 p.d) p.os := fun d os => Calls.regrown_of (HBk.out _)
  have Q0 := cell_regrown q0; have Q1 := cell_regrown q1; have Q2 := cell_regrown q2; have Q3 := cell_regrown q3; have Q4 := cell_regrown q4
  have F0 := cell_regrown f0; have F1 := cell_regrown f1; have F2 := cell_regrown f2; have F3 := cell_regrown f3; have F4 := cell_regrown f4; have F5 := cell_regrown f5
  clear q0 q1 q2 q3 q4 qs f0 f1 f2 f3 f4 f5 f6 f7 f8 f9 f10 f11 f12 f13 ff fs
  refine wp_region_quiet_below (by kernel_rfl) (by kernel_rfl) ?_
  repeat (quiet_step (first | exact cB _ _))
  refine wpQuiet_nil ?_
  intro _ hw'
  obtain ⟨⟨dq, osq⟩, hw''⟩ := hw'
  subst hw''
  have HE1 : Hid (Lk w (grow (redrawn W0 dq) osq) B lo (some ⟨gS, 0, none⟩) aH aF aL cS cH cF cL M ⟨c, 1, ((j : Int) + 1), prev, slot, nn, keys, false, ee⟩ aK cK) := HE.out.below (below_regrown W0 dq osq)
  generalize grow (redrawn W0 dq) osq = w1 at *
  clear cB Q0 Q1 Q2 Q3 Q4 F0 F1 F2 F3 F4 F5 HE HBk
  obtain ⟨f0, f1, f2, f3, f4, f5, f6, f7, f8, f9, f10, f11, f12, f13, ff, fs⟩ := framef (show w1.heap[w.heap.size]? = some (.cells #[.int .i64 c.kind, .int .i64 c.a, .int .i64 c.b, .int .i64 c.time, .int .i64 c.bk, .int .i64 c.slot, .int .i64 1, .int .i64 ((j : Int) + 1), .int .i64 prev, .int .i64 slot, .int .i64 nn, .slice aK keys.length cK, .bool false, .int .i64 ee] 51 (0, 0)) from HE1.out.fb)
  obtain ⟨q0, q1, q2, q3, q4, -, -, -, -, -, qs⟩ := boxf HE1.out.m.box
  obtain ⟨x0, x1, x2, x3, x4, x5, xf⟩ := HX.out w1 HE1.out.m
  have xs : gS < w1.heap.size := cell_lt x0
  go_wp2_with (go_at_call 99; refine (HI.out _).mono ?_; rintro e w3 ⟨rfl, rfl⟩)
  go_quiet (fail)
  go_wp2_with fail
  have HE2 : Hid (Lk2 w (w1.drewN nq) (Foot B (some ⟨gS, 0, none⟩) aH aF aL) B lo M ⟨c, 1, (j : Int) + 1, prev, slot, nn, keys, false, ee⟩ aK cK) := (HE1.out.below (w2 := w1.drewN nq) ⟨rfl, rfl, rfl, Nat.le_refl _, fun _ _ => rfl⟩).bare
  clear HE1
  refine (rto_any ⟨c, 1, (j : Int) + 1, prev, slot, nn, keys, false, ee⟩ 2 w.heap.size aK cK _ HE2.out.fb).mono ?_
  rintro e w9 ⟨rfl, hf9, hx9⟩
  have HE9 : Hid (Lk2 w w9 (Foot B (some ⟨gS, 0, none⟩) aH aF aL) B lo M (toF ⟨c, 1, (j : Int) + 1, prev, slot, nn, keys, false, ee⟩ 2) aK cK) := HE2.out.to hf9 hx9
  clear HE2 hf9 hx9
  clear q0 q1 q2 q3 q4 qs f0 f1 f2 f3 f4 f5 f6 f7 f8 f9 f10 f11 f12 f13 ff fs
  obtain ⟨g0, g1, g2, g3, g4, g5, g6, g7, g8, g9, g10, g11, g12, g13, gf, gs⟩ := framef HE9.out.zb
  go_wp2
  refine bodyPost_ret (v := .agg #[.int .i64 (toF ⟨c, 1, (j : Int) + 1, prev, slot, nn, keys, false, ee⟩ 2).c.kind, .int .i64 (toF ⟨c, 1, (j : Int) + 1, prev, slot, nn, keys, false, ee⟩ 2).c.a, .int .i64 (toF ⟨c, 1, (j : Int) + 1, prev, slot, nn, keys, false, ee⟩ 2).c.b, .int .i64 (toF ⟨c, 1, (j : Int) + 1, prev, slot, nn, keys, false, ee⟩ 2).c.time, .int .i64 (toF ⟨c, 1, (j : Int) + 1, prev, slot, nn, keys, false, ee⟩ 2).c.bk, .int .i64 (toF ⟨c, 1, (j : Int) + 1, prev, slot, nn, keys, false, ee⟩ 2).c.slot, .int .i64 (toF ⟨c, 1, (j : Int) + 1, prev, slot, nn, keys, false, ee⟩ 2).pl, .int .i64 (toF ⟨c, 1, (j : Int) + 1, prev, slot, nn, keys, false, ee⟩ 2).cur, .int .i64 (toF ⟨c, 1, (j : Int) + 1, prev, slot, nn, keys, false, ee⟩ 2).prev, .int .i64 (toF ⟨c, 1, (j : Int) + 1, prev, slot, nn, keys, false, ee⟩ 2).slot, .int .i64 (toF ⟨c, 1, (j : Int) + 1, prev, slot, nn, keys, false, ee⟩ 2).n, .slice aK (toF ⟨c, 1, (j : Int) + 1, prev, slot, nn, keys, false, ee⟩ 2).keys.length cK, .bool (toF ⟨c, 1, (j : Int) + 1, prev, slot, nn, keys, false, ee⟩ 2).done, .int .i64 (toF ⟨c, 1, (j : Int) + 1, prev, slot, nn, keys, false, ee⟩ 2).e]) (by simp [results, Try.results37, go_sem, toF, g0, g1, g2, g3, g4, g5, g6, g7, g8, g9, g10, g11, g12, g13]) rfl ⟨⟨aK, cK, rfl, HR.out.fine HE9.out.end14.2 HZ.out, (fun ad h => .inl h), fun _ => ⟨rfl, rfl⟩⟩, HE9.out.end14⟩

set_option maxHeartbeats 3200000 in
theorem rstep1endtrue (M : Mm) (c : Cl) (cur prev slot nn ee : Int) (keys : List (Int × Int)) (B lo : Nat) (aS aH aF aL : Option Addr) (cS cH cF cL : Nat) (aK : Option Addr) (cK : Nat) (w : World) (b : Nat)
    (m : Mine w B lo aS aH aF aL cS cH cF cL M) (HR : Hid (KRow w aK cK keys)) (HZ : Hid (∀ ad, aK = some ad → ¬ Foot B aS aH aF aL ad.block)) (hc : cur ≤ 0) (hb4 : b ≤ 4) (hq : (cur == -1 - (b : Int)) = true)
    (HBk : Hid (∀ W : World, Calls Try.prog 32 #[.agg #[.slice aS M.slots.length cS, .slice aH M.heads.length cH, .slice aF M.free.length cF, .slice aL M.locks.length cL, .int .i64 M.now], .agg #[.int .i64 c.kind, .int .i64 c.a, .int .i64 c.b, .int .i64 c.time, .int .i64 c.bk, .int .i64 c.slot]] W fun e w' => e = .returned (.int .i64 (b : Int)) ∧ Below W.heap.size W w')) :
    Calls Try.prog 37 #[.pointer (some ⟨B, 0, none⟩), .agg #[.int .i64 c.kind, .int .i64 c.a, .int .i64 c.b, .int .i64 c.time, .int .i64 c.bk, .int .i64 c.slot, .int .i64 1, .int .i64 cur, .int .i64 prev, .int .i64 slot, .int .i64 nn, .slice aK keys.length cK, .bool false, .int .i64 ee]] w fun e w' => Ret w w' e (endF ⟨c, 1, cur, prev, slot, nn, keys, false, ee⟩ 5) aK cK ∧ Has w' B lo (Up w (Foot B aS aH aF aL)) (M) ∧ Fine w w' (Foot B aS aH aF aL) := by
  have hisl : decide (0 < cur) = false := by rw [decide_eq_false_iff_not]; omega
  have HI : Hid (∀ W : World, Calls Try.prog 99 #[.int .i64 cur] W fun e w' => e = .returned (.bool false) ∧ W = w') := fun W => isSlotE _ W hisl
  have hq2 : (cur == -((b : Int) + 1)) = true := by rw [← hq, show -((b : Int) + 1) = -1 - (b : Int) by omega]
  clear hisl hq
  obtain ⟨of, hof⟩ : ∃ o : Obj, o = .cells #[.int .i64 c.kind, .int .i64 c.a, .int .i64 c.b, .int .i64 c.time, .int .i64 c.bk, .int .i64 c.slot, .int .i64 1, .int .i64 cur, .int .i64 prev, .int .i64 slot, .int .i64 nn, .slice aK keys.length cK, .bool false, .int .i64 ee] 51 := ⟨_, rfl⟩
  obtain ⟨oz, hoz⟩ : ∃ o : Obj, o = zeroFr := ⟨_, rfl⟩
  have HE : Hid (Lk w ((w.alloc of).alloc oz) B lo aS aH aF aL cS cH cF cL M ⟨c, 1, cur, prev, slot, nn, keys, false, ee⟩ aK cK) := Lk.first m ⟨c, 1, cur, prev, slot, nn, keys, false, ee⟩ aK cK hof hoz
  obtain ⟨f0, f1, f2, f3, f4, f5, f6, f7, f8, f9, f10, f11, f12, f13, ff, fs⟩ := framef (show ((w.alloc of).alloc oz).heap[w.heap.size]? = some (.cells #[.int .i64 c.kind, .int .i64 c.a, .int .i64 c.b, .int .i64 c.time, .int .i64 c.bk, .int .i64 c.slot, .int .i64 1, .int .i64 cur, .int .i64 prev, .int .i64 slot, .int .i64 nn, .slice aK keys.length cK, .bool false, .int .i64 ee] 51 (0, 0)) from HE.out.fb)
  obtain ⟨q0, q1, q2, q3, q4, -, -, -, -, -, qs⟩ := boxf HE.out.m.box
  unfold zeroFr at hoz
  clear m
  go_enter Try.func37, Try.ntmps37
  go_wp2_with fail
  rw [← hof, ← hoz]
  generalize (w.alloc of).alloc oz = W0 at *
  subst hof hoz
  have cB : ∀ (d : Nat) (os : Array Obj), Calls Try.prog 32 #[.agg #[.slice aS M.slots.length cS, .slice aH M.heads.length cH, .slice aF M.free.length cF, .slice aL M.locks.length cL, .int .i64 M.now], .agg #[.int .i64 c.kind, .int .i64 c.a, .int .i64 c.b, .int .i64 c.time, .int .i64 c.bk, .int .i64 c.slot]] (grow (redrawn W0 d) os) fun e w'' => e = .returned (.int .i64 (b : Int)) ∧ ∃ p : Regrown, w'' = grow (redrawn W0 p.d) p.os := fun d os => Calls.regrown_of (HBk.out _)
  have Q0 := cell_regrown q0; have Q1 := cell_regrown q1; have Q2 := cell_regrown q2; have Q3 := cell_regrown q3; have Q4 := cell_regrown q4
  have F0 := cell_regrown f0; have F1 := cell_regrown f1; have F2 := cell_regrown f2; have F3 := cell_regrown f3; have F4 := cell_regrown f4; have F5 := cell_regrown f5
  clear q0 q1 q2 q3 q4 qs f0 f1 f2 f3 f4 f5 f6 f7 f8 f9 f10 f11 f12 f13 ff fs
  refine wp_region_quiet_below (by kernel_rfl) (by kernel_rfl) ?_
  repeat (quiet_step (first | exact cB _ _))
  refine wpQuiet_nil ?_
  intro _ hw'
  obtain ⟨⟨dq, osq⟩, hw''⟩ := hw'
  subst hw''
  have HE1 : Hid (Lk w (grow (redrawn W0 dq) osq) B lo aS aH aF aL cS cH cF cL M ⟨c, 1, cur, prev, slot, nn, keys, false, ee⟩ aK cK) := HE.out.below (below_regrown W0 dq osq)
  generalize grow (redrawn W0 dq) osq = w1 at *
  clear cB Q0 Q1 Q2 Q3 Q4 F0 F1 F2 F3 F4 F5 HE HBk
  obtain ⟨f0, f1, f2, f3, f4, f5, f6, f7, f8, f9, f10, f11, f12, f13, ff, fs⟩ := framef (show w1.heap[w.heap.size]? = some (.cells #[.int .i64 c.kind, .int .i64 c.a, .int .i64 c.b, .int .i64 c.time, .int .i64 c.bk, .int .i64 c.slot, .int .i64 1, .int .i64 cur, .int .i64 prev, .int .i64 slot, .int .i64 nn, .slice aK keys.length cK, .bool false, .int .i64 ee] 51 (0, 0)) from HE1.out.fb)
  obtain ⟨q0, q1, q2, q3, q4, -, -, -, -, -, qs⟩ := boxf HE1.out.m.box
  go_wp2_with (go_at_call 99; refine (HI.out _).mono ?_; rintro e w3 ⟨rfl, rfl⟩)
  have HE2 : Hid (Lk2 w _ (Foot B aS aH aF aL) B lo M ⟨c, 1, cur, prev, slot, nn, keys, false, ee⟩ aK cK) := HE1.out.bare
  clear HE1
  refine (over_any ⟨c, 1, cur, prev, slot, nn, keys, false, ee⟩ 5 aK cK _).mono ?_
  rintro e w9 ⟨rfl, hb9⟩
  have HE9 : Hid (Lk2 w w9 (Foot B aS aH aF aL) B lo M ⟨c, 1, cur, prev, slot, nn, keys, false, ee⟩ aK cK) := HE2.out.below hb9
  clear HE2 hb9
  clear q0 q1 q2 q3 q4 qs f0 f1 f2 f3 f4 f5 f6 f7 f8 f9 f10 f11 f12 f13 ff fs
  obtain ⟨g0, g1, g2, g3, g4, g5, g6, g7, g8, g9, g10, g11, g12, g13, gf, gs⟩ := framef HE9.out.zb
  go_wp2
  refine bodyPost_ret (v := .agg #[.int .i64 (endF ⟨c, 1, cur, prev, slot, nn, keys, false, ee⟩ 5).c.kind, .int .i64 (endF ⟨c, 1, cur, prev, slot, nn, keys, false, ee⟩ 5).c.a, .int .i64 (endF ⟨c, 1, cur, prev, slot, nn, keys, false, ee⟩ 5).c.b, .int .i64 (endF ⟨c, 1, cur, prev, slot, nn, keys, false, ee⟩ 5).c.time, .int .i64 (endF ⟨c, 1, cur, prev, slot, nn, keys, false, ee⟩ 5).c.bk, .int .i64 (endF ⟨c, 1, cur, prev, slot, nn, keys, false, ee⟩ 5).c.slot, .int .i64 (endF ⟨c, 1, cur, prev, slot, nn, keys, false, ee⟩ 5).pl, .int .i64 (endF ⟨c, 1, cur, prev, slot, nn, keys, false, ee⟩ 5).cur, .int .i64 (endF ⟨c, 1, cur, prev, slot, nn, keys, false, ee⟩ 5).prev, .int .i64 (endF ⟨c, 1, cur, prev, slot, nn, keys, false, ee⟩ 5).slot, .int .i64 (endF ⟨c, 1, cur, prev, slot, nn, keys, false, ee⟩ 5).n, .slice aK (endF ⟨c, 1, cur, prev, slot, nn, keys, false, ee⟩ 5).keys.length cK, .bool (endF ⟨c, 1, cur, prev, slot, nn, keys, false, ee⟩ 5).done, .int .i64 (endF ⟨c, 1, cur, prev, slot, nn, keys, false, ee⟩ 5).e]) (by simp [results, Try.results37, go_sem, endF, g0, g1, g2, g3, g4, g5, g6, g7, g8, g9, g10, g11, g12, g13]) rfl ⟨⟨aK, cK, rfl, HR.out.fine HE9.out.end14.2 HZ.out, (fun ad h => .inl h), fun _ => ⟨rfl, rfl⟩⟩, HE9.out.end14⟩

set_option maxHeartbeats 3200000 in
theorem rstep1endfalse (M : Mm) (c : Cl) (cur prev slot nn ee : Int) (keys : List (Int × Int)) (B lo : Nat) (aS aH aF aL : Option Addr) (cS cH cF cL : Nat) (aK : Option Addr) (cK : Nat) (w : World) (b : Nat)
    (m : Mine w B lo aS aH aF aL cS cH cF cL M) (HR : Hid (KRow w aK cK keys)) (HZ : Hid (∀ ad, aK = some ad → ¬ Foot B aS aH aF aL ad.block)) (hc : cur ≤ 0) (hb4 : b ≤ 4) (hq : (cur == -1 - (b : Int)) = false)
    (HBk : Hid (∀ W : World, Calls Try.prog 32 #[.agg #[.slice aS M.slots.length cS, .slice aH M.heads.length cH, .slice aF M.free.length cF, .slice aL M.locks.length cL, .int .i64 M.now], .agg #[.int .i64 c.kind, .int .i64 c.a, .int .i64 c.b, .int .i64 c.time, .int .i64 c.bk, .int .i64 c.slot]] W fun e w' => e = .returned (.int .i64 (b : Int)) ∧ Below W.heap.size W w')) :
    Calls Try.prog 37 #[.pointer (some ⟨B, 0, none⟩), .agg #[.int .i64 c.kind, .int .i64 c.a, .int .i64 c.b, .int .i64 c.time, .int .i64 c.bk, .int .i64 c.slot, .int .i64 1, .int .i64 cur, .int .i64 prev, .int .i64 slot, .int .i64 nn, .slice aK keys.length cK, .bool false, .int .i64 ee]] w fun e w' => Ret w w' e (toF ⟨c, 1, cur, prev, slot, nn, keys, false, ee⟩ 0) aK cK ∧ Has w' B lo (Up w (Foot B aS aH aF aL)) (M) ∧ Fine w w' (Foot B aS aH aF aL) := by
  have hisl : decide (0 < cur) = false := by rw [decide_eq_false_iff_not]; omega
  have HI : Hid (∀ W : World, Calls Try.prog 99 #[.int .i64 cur] W fun e w' => e = .returned (.bool false) ∧ W = w') := fun W => isSlotE _ W hisl
  have hq2 : (cur == -((b : Int) + 1)) = false := by rw [← hq, show -((b : Int) + 1) = -1 - (b : Int) by omega]
  clear hisl hq
  obtain ⟨of, hof⟩ : ∃ o : Obj, o = .cells #[.int .i64 c.kind, .int .i64 c.a, .int .i64 c.b, .int .i64 c.time, .int .i64 c.bk, .int .i64 c.slot, .int .i64 1, .int .i64 cur, .int .i64 prev, .int .i64 slot, .int .i64 nn, .slice aK keys.length cK, .bool false, .int .i64 ee] 51 := ⟨_, rfl⟩
  obtain ⟨oz, hoz⟩ : ∃ o : Obj, o = zeroFr := ⟨_, rfl⟩
  have HE : Hid (Lk w ((w.alloc of).alloc oz) B lo aS aH aF aL cS cH cF cL M ⟨c, 1, cur, prev, slot, nn, keys, false, ee⟩ aK cK) := Lk.first m ⟨c, 1, cur, prev, slot, nn, keys, false, ee⟩ aK cK hof hoz
  obtain ⟨f0, f1, f2, f3, f4, f5, f6, f7, f8, f9, f10, f11, f12, f13, ff, fs⟩ := framef (show ((w.alloc of).alloc oz).heap[w.heap.size]? = some (.cells #[.int .i64 c.kind, .int .i64 c.a, .int .i64 c.b, .int .i64 c.time, .int .i64 c.bk, .int .i64 c.slot, .int .i64 1, .int .i64 cur, .int .i64 prev, .int .i64 slot, .int .i64 nn, .slice aK keys.length cK, .bool false, .int .i64 ee] 51 (0, 0)) from HE.out.fb)
  obtain ⟨q0, q1, q2, q3, q4, -, -, -, -, -, qs⟩ := boxf HE.out.m.box
  unfold zeroFr at hoz
  clear m
  go_enter Try.func37, Try.ntmps37
  go_wp2_with fail
  rw [← hof, ← hoz]
  generalize (w.alloc of).alloc oz = W0 at *
  subst hof hoz
  have cB : ∀ (d : Nat) (os : Array Obj), Calls Try.prog 32 #[.agg #[.slice aS M.slots.length cS, .slice aH M.heads.length cH, .slice aF M.free.length cF, .slice aL M.locks.length cL, .int .i64 M.now], .agg #[.int .i64 c.kind, .int .i64 c.a, .int .i64 c.b, .int .i64 c.time, .int .i64 c.bk, .int .i64 c.slot]] (grow (redrawn W0 d) os) fun e w'' => e = .returned (.int .i64 (b : Int)) ∧ ∃ p : Regrown, w'' = grow (redrawn W0 p.d) p.os := fun d os => Calls.regrown_of (HBk.out _)
  have Q0 := cell_regrown q0; have Q1 := cell_regrown q1; have Q2 := cell_regrown q2; have Q3 := cell_regrown q3; have Q4 := cell_regrown q4
  have F0 := cell_regrown f0; have F1 := cell_regrown f1; have F2 := cell_regrown f2; have F3 := cell_regrown f3; have F4 := cell_regrown f4; have F5 := cell_regrown f5
  clear q0 q1 q2 q3 q4 qs f0 f1 f2 f3 f4 f5 f6 f7 f8 f9 f10 f11 f12 f13 ff fs
  refine wp_region_quiet_below (by kernel_rfl) (by kernel_rfl) ?_
  repeat (quiet_step (first | exact cB _ _))
  refine wpQuiet_nil ?_
  intro _ hw'
  obtain ⟨⟨dq, osq⟩, hw''⟩ := hw'
  subst hw''
  have HE1 : Hid (Lk w (grow (redrawn W0 dq) osq) B lo aS aH aF aL cS cH cF cL M ⟨c, 1, cur, prev, slot, nn, keys, false, ee⟩ aK cK) := HE.out.below (below_regrown W0 dq osq)
  generalize grow (redrawn W0 dq) osq = w1 at *
  clear cB Q0 Q1 Q2 Q3 Q4 F0 F1 F2 F3 F4 F5 HE HBk
  obtain ⟨f0, f1, f2, f3, f4, f5, f6, f7, f8, f9, f10, f11, f12, f13, ff, fs⟩ := framef (show w1.heap[w.heap.size]? = some (.cells #[.int .i64 c.kind, .int .i64 c.a, .int .i64 c.b, .int .i64 c.time, .int .i64 c.bk, .int .i64 c.slot, .int .i64 1, .int .i64 cur, .int .i64 prev, .int .i64 slot, .int .i64 nn, .slice aK keys.length cK, .bool false, .int .i64 ee] 51 (0, 0)) from HE1.out.fb)
  obtain ⟨q0, q1, q2, q3, q4, -, -, -, -, -, qs⟩ := boxf HE1.out.m.box
  go_wp2_with (go_at_call 99; refine (HI.out _).mono ?_; rintro e w3 ⟨rfl, rfl⟩)
  have HE2 : Hid (Lk2 w _ (Foot B aS aH aF aL) B lo M ⟨c, 1, cur, prev, slot, nn, keys, false, ee⟩ aK cK) := HE1.out.bare
  clear HE1
  refine (rto_any ⟨c, 1, cur, prev, slot, nn, keys, false, ee⟩ 0 w.heap.size aK cK _ HE2.out.fb).mono ?_
  rintro e w9 ⟨rfl, hf9, hx9⟩
  have HE9 : Hid (Lk2 w w9 (Foot B aS aH aF aL) B lo M (toF ⟨c, 1, cur, prev, slot, nn, keys, false, ee⟩ 0) aK cK) := HE2.out.to hf9 hx9
  clear HE2 hf9 hx9
  clear q0 q1 q2 q3 q4 qs f0 f1 f2 f3 f4 f5 f6 f7 f8 f9 f10 f11 f12 f13 ff fs
  obtain ⟨g0, g1, g2, g3, g4, g5, g6, g7, g8, g9, g10, g11, g12, g13, gf, gs⟩ := framef HE9.out.zb
  go_wp2
  refine bodyPost_ret (v := .agg #[.int .i64 (toF ⟨c, 1, cur, prev, slot, nn, keys, false, ee⟩ 0).c.kind, .int .i64 (toF ⟨c, 1, cur, prev, slot, nn, keys, false, ee⟩ 0).c.a, .int .i64 (toF ⟨c, 1, cur, prev, slot, nn, keys, false, ee⟩ 0).c.b, .int .i64 (toF ⟨c, 1, cur, prev, slot, nn, keys, false, ee⟩ 0).c.time, .int .i64 (toF ⟨c, 1, cur, prev, slot, nn, keys, false, ee⟩ 0).c.bk, .int .i64 (toF ⟨c, 1, cur, prev, slot, nn, keys, false, ee⟩ 0).c.slot, .int .i64 (toF ⟨c, 1, cur, prev, slot, nn, keys, false, ee⟩ 0).pl, .int .i64 (toF ⟨c, 1, cur, prev, slot, nn, keys, false, ee⟩ 0).cur, .int .i64 (toF ⟨c, 1, cur, prev, slot, nn, keys, false, ee⟩ 0).prev, .int .i64 (toF ⟨c, 1, cur, prev, slot, nn, keys, false, ee⟩ 0).slot, .int .i64 (toF ⟨c, 1, cur, prev, slot, nn, keys, false, ee⟩ 0).n, .slice aK (toF ⟨c, 1, cur, prev, slot, nn, keys, false, ee⟩ 0).keys.length cK, .bool (toF ⟨c, 1, cur, prev, slot, nn, keys, false, ee⟩ 0).done, .int .i64 (toF ⟨c, 1, cur, prev, slot, nn, keys, false, ee⟩ 0).e]) (by simp [results, Try.results37, go_sem, toF, g0, g1, g2, g3, g4, g5, g6, g7, g8, g9, g10, g11, g12, g13]) rfl ⟨⟨aK, cK, rfl, HR.out.fine HE9.out.end14.2 HZ.out, (fun ad h => .inl h), fun _ => ⟨rfl, rfl⟩⟩, HE9.out.end14⟩

set_option maxHeartbeats 3200000 in
theorem rstep2 (M : Mm) (c : Cl) (prev slot nn ee : Int) (keys : List (Int × Int)) (B lo : Nat) (aS aH aF aL : Option Addr) (cS cH cF cL : Nat) (aK : Option Addr) (cK : Nat) (w : World) (b : Nat)
    (m : Mine w B lo aS aH aF aL cS cH cF cL M) (HR : Hid (KRow w aK cK keys)) (HZ : Hid (∀ ad, aK = some ad → ¬ Foot B aS aH aF aL ad.block)) (j : Nat) (s : Sl) (hns : M.slots.length ≤ 12) (hj : j < M.slots.length) (hs : s = slotAt M j)
    (HBk : Hid (∀ W : World, Calls Try.prog 32 #[.agg #[.slice aS M.slots.length cS, .slice aH M.heads.length cH, .slice aF M.free.length cF, .slice aL M.locks.length cL, .int .i64 M.now], .agg #[.int .i64 c.kind, .int .i64 c.a, .int .i64 c.b, .int .i64 c.time, .int .i64 c.bk, .int .i64 c.slot]] W fun e w' => e = .returned (.int .i64 (b : Int)) ∧ Below W.heap.size W w')) :
    Calls Try.prog 37 #[.pointer (some ⟨B, 0, none⟩), .agg #[.int .i64 c.kind, .int .i64 c.a, .int .i64 c.b, .int .i64 c.time, .int .i64 c.bk, .int .i64 c.slot, .int .i64 2, .int .i64 ((j : Int) + 1), .int .i64 prev, .int .i64 slot, .int .i64 nn, .slice aK keys.length cK, .bool false, .int .i64 ee]] w fun e w' => Ret w w' e (curF ⟨c, 2, (j : Int) + 1, prev, slot, nn, keys, false, ee⟩ s.next 1) aK cK ∧ Has w' B lo (Up w (Foot B aS aH aF aL)) (M) ∧ Fine w w' (Foot B aS aH aF aL) := by
  obtain ⟨gS, rfl, oS, lS, kS, -⟩ := row_form m.c.s (by omega)
  have HX : Hid (∀ W, Mine W B lo (some ⟨gS, 0, none⟩) aH aF aL cS cH cF cL M → W.cell? ⟨gS, j * 6, none⟩ = some (.int .i64 s.refs) ∧ W.cell? ⟨gS, j * 6 + 1, none⟩ = some (.int .i64 s.a) ∧ W.cell? ⟨gS, j * 6 + 2, none⟩ = some (.int .i64 s.b) ∧
    W.cell? ⟨gS, j * 6 + 3, none⟩ = some (.int .i64 s.unt) ∧ W.cell? ⟨gS, j * 6 + 4, none⟩ = some (.bool s.inn) ∧ W.cell? ⟨gS, j * 6 + 5, none⟩ = some (.int .i64 s.next) ∧ ∀ q, W.frozen? ⟨gS, q, none⟩ = false) := fun W m' => slotAt_cells m'.c.s hj hs
  clear hs
  have hisl : decide (0 < (j : Int) + 1) = true := by rw [decide_eq_true_iff]; omega
  have HI : Hid (∀ W : World, Calls Try.prog 99 #[.int .i64 ((j : Int) + 1)] W fun e w' => e = .returned (.bool true) ∧ W = w') := fun W => isSlotE _ W hisl
  clear hisl
  have hw1 : IntKind.i64.wrap ((j : Int) + 1 - 1) = (j : Int) := by rw [IntKind.wrap_i64]; omega
  have hw2 : wrap64 ((j : Int) + 1 - 1) = (j : Int) := by unfold wrap64; omega
  have hw3 : (j : Int) + 1 - 1 = (j : Int) := by omega
  obtain ⟨of, hof⟩ : ∃ o : Obj, o = .cells #[.int .i64 c.kind, .int .i64 c.a, .int .i64 c.b, .int .i64 c.time, .int .i64 c.bk, .int .i64 c.slot, .int .i64 2, .int .i64 ((j : Int) + 1), .int .i64 prev, .int .i64 slot, .int .i64 nn, .slice aK keys.length cK, .bool false, .int .i64 ee] 51 := ⟨_, rfl⟩
  obtain ⟨oz, hoz⟩ : ∃ o : Obj, o = zeroFr := ⟨_, rfl⟩
  have HE : Hid (Lk w ((w.alloc of).alloc oz) B lo (some ⟨gS, 0, none⟩) aH aF aL cS cH cF cL M ⟨c, 2, ((j : Int) + 1), prev, slot, nn, keys, false, ee⟩ aK cK) := Lk.first m ⟨c, 2, ((j : Int) + 1), prev, slot, nn, keys, false, ee⟩ aK cK hof hoz
  obtain ⟨f0, f1, f2, f3, f4, f5, f6, f7, f8, f9, f10, f11, f12, f13, ff, fs⟩ := framef (show ((w.alloc of).alloc oz).heap[w.heap.size]? = some (.cells #[.int .i64 c.kind, .int .i64 c.a, .int .i64 c.b, .int .i64 c.time, .int .i64 c.bk, .int .i64 c.slot, .int .i64 2, .int .i64 ((j : Int) + 1), .int .i64 prev, .int .i64 slot, .int .i64 nn, .slice aK keys.length cK, .bool false, .int .i64 ee] 51 (0, 0)) from HE.out.fb)
  obtain ⟨q0, q1, q2, q3, q4, -, -, -, -, -, qs⟩ := boxf HE.out.m.box
  unfold zeroFr at hoz
  clear m
  go_enter Try.func37, Try.ntmps37
  go_wp2_with fail
  rw [← hof, ← hoz]
  generalize (w.alloc of).alloc oz = W0 at *
  subst hof hoz
  have cB : ∀ (d : Nat) (os : Array Obj), Calls Try.prog 32 #[.agg #[.slice (some ⟨gS, 0, none⟩) M.slots.length cS, .slice aH M.heads.length cH, .slice aF M.free.length cF, .slice aL M.locks.length cL, .int .i64 M.now], .agg #[.int .i64 c.kind, .int .i64 c.a, .int .i64 c.b, .int .i64 c.time, .int .i64 c.bk, .int .i64 c.slot]] (grow (redrawn W0 d) os) fun e w'' => e = .returned (.int .i64 (b : Int)) ∧ ∃ p : Regrown, w'' = grow (redrawn W0 p.d) p.os := fun d os => Calls.regrown_of (HBk.out _)
  have Q0 := cell_regrown q0; have Q1 := cell_regrown q1; have Q2 := cell_regrown q2; have Q3 := cell_regrown q3; have Q4 := cell_regrown q4
  have F0 := cell_regrown f0; have F1 := cell_regrown f1; have F2 := cell_regrown f2; have F3 := cell_regrown f3; have F4 := cell_regrown f4; have F5 := cell_regrown f5
  clear q0 q1 q2 q3 q4 qs f0 f1 f2 f3 f4 f5 f6 f7 f8 f9 f10 f11 f12 f13 ff fs
  refine wp_region_quiet_below (by kernel_rfl) (by kernel_rfl) ?_
  repeat (quiet_step (first | exact cB _ _))
  refine wpQuiet_nil ?_
  intro _ hw'
  obtain ⟨⟨dq, osq⟩, hw''⟩ := hw'
  subst hw''
  have HE1 : Hid (Lk w (grow (redrawn W0 dq) osq) B lo (some ⟨gS, 0, none⟩) aH aF aL cS cH cF cL M ⟨c, 2, ((j : Int) + 1), prev, slot, nn, keys, false, ee⟩ aK cK) := HE.out.below (below_regrown W0 dq osq)
  generalize grow (redrawn W0 dq) osq = w1 at *
  clear cB Q0 Q1 Q2 Q3 Q4 F0 F1 F2 F3 F4 F5 HE HBk
  obtain ⟨f0, f1, f2, f3, f4, f5, f6, f7, f8, f9, f10, f11, f12, f13, ff, fs⟩ := framef (show w1.heap[w.heap.size]? = some (.cells #[.int .i64 c.kind, .int .i64 c.a, .int .i64 c.b, .int .i64 c.time, .int .i64 c.bk, .int .i64 c.slot, .int .i64 2, .int .i64 ((j : Int) + 1), .int .i64 prev, .int .i64 slot, .int .i64 nn, .slice aK keys.length cK, .bool false, .int .i64 ee] 51 (0, 0)) from HE1.out.fb)
  obtain ⟨q0, q1, q2, q3, q4, -, -, -, -, -, qs⟩ := boxf HE1.out.m.box
  obtain ⟨x0, x1, x2, x3, x4, x5, xf⟩ := HX.out w1 HE1.out.m
  have xs : gS < w1.heap.size := cell_lt x0
  go_wp2_with (go_at_call 99; refine (HI.out _).mono ?_; rintro e w3 ⟨rfl, rfl⟩)
  go_region
  all_goals
    go_wp2_with fail
    have HE2 : Hid (Lk2 w ((w1.setCell ⟨w.heap.size, 7, none⟩ (.int .i64 s.next)).drew) (Foot B (some ⟨gS, 0, none⟩) aH aF aL) B lo M ⟨c, 2, s.next, prev, slot, nn, keys, false, ee⟩ aK cK) := (HE1.out.bare.store 7 (.int .i64 s.next) ⟨c, 2, s.next, prev, slot, nn, keys, false, ee⟩ rfl).below ⟨rfl, rfl, rfl, Nat.le_refl _, fun _ _ => rfl⟩
    clear HE1
    refine (rto_any ⟨c, 2, s.next, prev, slot, nn, keys, false, ee⟩ 1 w.heap.size aK cK _ HE2.out.fb).mono ?_
    rintro e w9 ⟨rfl, hf9, hx9⟩
    have HE9 : Hid (Lk2 w w9 (Foot B (some ⟨gS, 0, none⟩) aH aF aL) B lo M (toF ⟨c, 2, s.next, prev, slot, nn, keys, false, ee⟩ 1) aK cK) := HE2.out.to hf9 hx9
    clear HE2 hf9 hx9
    clear q0 q1 q2 q3 q4 qs f0 f1 f2 f3 f4 f5 f6 f7 f8 f9 f10 f11 f12 f13 ff fs
    obtain ⟨g0, g1, g2, g3, g4, g5, g6, g7, g8, g9, g10, g11, g12, g13, gf, gs⟩ := framef HE9.out.zb
    go_wp2
    refine bodyPost_ret (v := .agg #[.int .i64 (curF ⟨c, 2, (j : Int) + 1, prev, slot, nn, keys, false, ee⟩ s.next 1).c.kind, .int .i64 (curF ⟨c, 2, (j : Int) + 1, prev, slot, nn, keys, false, ee⟩ s.next 1).c.a, .int .i64 (curF ⟨c, 2, (j : Int) + 1, prev, slot, nn, keys, false, ee⟩ s.next 1).c.b, .int .i64 (curF ⟨c, 2, (j : Int) + 1, prev, slot, nn, keys, false, ee⟩ s.next 1).c.time, .int .i64 (curF ⟨c, 2, (j : Int) + 1, prev, slot, nn, keys, false, ee⟩ s.next 1).c.bk, .int .i64 (curF ⟨c, 2, (j : Int) + 1, prev, slot, nn, keys, false, ee⟩ s.next 1).c.slot, .int .i64 (curF ⟨c, 2, (j : Int) + 1, prev, slot, nn, keys, false, ee⟩ s.next 1).pl, .int .i64 (curF ⟨c, 2, (j : Int) + 1, prev, slot, nn, keys, false, ee⟩ s.next 1).cur, .int .i64 (curF ⟨c, 2, (j : Int) + 1, prev, slot, nn, keys, false, ee⟩ s.next 1).prev, .int .i64 (curF ⟨c, 2, (j : Int) + 1, prev, slot, nn, keys, false, ee⟩ s.next 1).slot, .int .i64 (curF ⟨c, 2, (j : Int) + 1, prev, slot, nn, keys, false, ee⟩ s.next 1).n, .slice aK (curF ⟨c, 2, (j : Int) + 1, prev, slot, nn, keys, false, ee⟩ s.next 1).keys.length cK, .bool (curF ⟨c, 2, (j : Int) + 1, prev, slot, nn, keys, false, ee⟩ s.next 1).done, .int .i64 (curF ⟨c, 2, (j : Int) + 1, prev, slot, nn, keys, false, ee⟩ s.next 1).e]) (by simp [results, Try.results37, go_sem, curF, toF, g0, g1, g2, g3, g4, g5, g6, g7, g8, g9, g10, g11, g12, g13]) rfl ⟨⟨aK, cK, rfl, HR.out.fine HE9.out.end14.2 HZ.out, (fun ad h => .inl h), fun _ => ⟨rfl, rfl⟩⟩, HE9.out.end14⟩

set_option maxHeartbeats 3200000 in
theorem rstep2no (M : Mm) (c : Cl) (cur prev slot nn ee : Int) (keys : List (Int × Int)) (B lo : Nat) (aS aH aF aL : Option Addr) (cS cH cF cL : Nat) (aK : Option Addr) (cK : Nat) (w : World) (b : Nat)
    (m : Mine w B lo aS aH aF aL cS cH cF cL M) (HR : Hid (KRow w aK cK keys)) (HZ : Hid (∀ ad, aK = some ad → ¬ Foot B aS aH aF aL ad.block)) (hc : cur ≤ 0)
    (HBk : Hid (∀ W : World, Calls Try.prog 32 #[.agg #[.slice aS M.slots.length cS, .slice aH M.heads.length cH, .slice aF M.free.length cF, .slice aL M.locks.length cL, .int .i64 M.now], .agg #[.int .i64 c.kind, .int .i64 c.a, .int .i64 c.b, .int .i64 c.time, .int .i64 c.bk, .int .i64 c.slot]] W fun e w' => e = .returned (.int .i64 (b : Int)) ∧ Below W.heap.size W w')) :
    Calls Try.prog 37 #[.pointer (some ⟨B, 0, none⟩), .agg #[.int .i64 c.kind, .int .i64 c.a, .int .i64 c.b, .int .i64 c.time, .int .i64 c.bk, .int .i64 c.slot, .int .i64 2, .int .i64 cur, .int .i64 prev, .int .i64 slot, .int .i64 nn, .slice aK keys.length cK, .bool false, .int .i64 ee]] w fun e w' => Ret w w' e (toF ⟨c, 2, cur, prev, slot, nn, keys, false, ee⟩ 0) aK cK ∧ Has w' B lo (Up w (Foot B aS aH aF aL)) (M) ∧ Fine w w' (Foot B aS aH aF aL) := by
  have hisl : decide (0 < cur) = false := by rw [decide_eq_false_iff_not]; omega
  have HI : Hid (∀ W : World, Calls Try.prog 99 #[.int .i64 cur] W fun e w' => e = .returned (.bool false) ∧ W = w') := fun W => isSlotE _ W hisl
  clear hisl
  obtain ⟨of, hof⟩ : ∃ o : Obj, o = .cells #[.int .i64 c.kind, .int .i64 c.a, .int .i64 c.b, .int .i64 c.time, .int .i64 c.bk, .int .i64 c.slot, .int .i64 2, .int .i64 cur, .int .i64 prev, .int .i64 slot, .int .i64 nn, .slice aK keys.length cK, .bool false, .int .i64 ee] 51 := ⟨_, rfl⟩
  obtain ⟨oz, hoz⟩ : ∃ o : Obj, o = zeroFr := ⟨_, rfl⟩
  have HE : Hid (Lk w ((w.alloc of).alloc oz) B lo aS aH aF aL cS cH cF cL M ⟨c, 2, cur, prev, slot, nn, keys, false, ee⟩ aK cK) := Lk.first m ⟨c, 2, cur, prev, slot, nn, keys, false, ee⟩ aK cK hof hoz
  obtain ⟨f0, f1, f2, f3, f4, f5, f6, f7, f8, f9, f10, f11, f12, f13, ff, fs⟩ := framef (show ((w.alloc of).alloc oz).heap[w.heap.size]? = some (.cells #[.int .i64 c.kind, .int .i64 c.a, .int .i64 c.b, .int .i64 c.time, .int .i64 c.bk, .int .i64 c.slot, .int .i64 2, .int .i64 cur, .int .i64 prev, .int .i64 slot, .int .i64 nn, .slice aK keys.length cK, .bool false, .int .i64 ee] 51 (0, 0)) from HE.out.fb)
  obtain ⟨q0, q1, q2, q3, q4, -, -, -, -, -, qs⟩ := boxf HE.out.m.box
  unfold zeroFr at hoz
  clear m
  go_enter Try.func37, Try.ntmps37
  go_wp2_with fail
  rw [← hof, ← hoz]
  generalize (w.alloc of).alloc oz = W0 at *
  subst hof hoz
  have cB : ∀ (d : Nat) (os : Array Obj), Calls Try.prog 32 #[.agg #[.slice aS M.slots.length cS, .slice aH M.heads.length cH, .slice aF M.free.length cF, .slice aL M.locks.length cL, .int .i64 M.now], .agg #[.int .i64 c.kind, .int .i64 c.a, .int .i64 c.b, .int .i64 c.time, .int .i64 c.bk, .int .i64 c.slot]] (grow (redrawn W0 d) os) fun e w'' => e = .returned (.int .i64 (b : Int)) ∧ ∃ p : Regrown, w'' = grow (redrawn W0 p.d) p.os := fun d os => Calls.regrown_of (HBk.out _)
  have Q0 := cell_regrown q0; have Q1 := cell_regrown q1; have Q2 := cell_regrown q2; have Q3 := cell_regrown q3; have Q4 := cell_regrown q4
  have F0 := cell_regrown f0; have F1 := cell_regrown f1; have F2 := cell_regrown f2; have F3 := cell_regrown f3; have F4 := cell_regrown f4; have F5 := cell_regrown f5
  clear q0 q1 q2 q3 q4 qs f0 f1 f2 f3 f4 f5 f6 f7 f8 f9 f10 f11 f12 f13 ff fs
  refine wp_region_quiet_below (by kernel_rfl) (by kernel_rfl) ?_
  repeat (quiet_step (first | exact cB _ _))
  refine wpQuiet_nil ?_
  intro _ hw'
  obtain ⟨⟨dq, osq⟩, hw''⟩ := hw'
  subst hw''
  have HE1 : Hid (Lk w (grow (redrawn W0 dq) osq) B lo aS aH aF aL cS cH cF cL M ⟨c, 2, cur, prev, slot, nn, keys, false, ee⟩ aK cK) := HE.out.below (below_regrown W0 dq osq)
  generalize grow (redrawn W0 dq) osq = w1 at *
  clear cB Q0 Q1 Q2 Q3 Q4 F0 F1 F2 F3 F4 F5 HE HBk
  obtain ⟨f0, f1, f2, f3, f4, f5, f6, f7, f8, f9, f10, f11, f12, f13, ff, fs⟩ := framef (show w1.heap[w.heap.size]? = some (.cells #[.int .i64 c.kind, .int .i64 c.a, .int .i64 c.b, .int .i64 c.time, .int .i64 c.bk, .int .i64 c.slot, .int .i64 2, .int .i64 cur, .int .i64 prev, .int .i64 slot, .int .i64 nn, .slice aK keys.length cK, .bool false, .int .i64 ee] 51 (0, 0)) from HE1.out.fb)
  obtain ⟨q0, q1, q2, q3, q4, -, -, -, -, -, qs⟩ := boxf HE1.out.m.box
  go_wp2_with (go_at_call 99; refine (HI.out _).mono ?_; rintro e w3 ⟨rfl, rfl⟩)
  have HE2 : Hid (Lk2 w _ (Foot B aS aH aF aL) B lo M ⟨c, 2, cur, prev, slot, nn, keys, false, ee⟩ aK cK) := HE1.out.bare
  clear HE1
  refine (rto_any ⟨c, 2, cur, prev, slot, nn, keys, false, ee⟩ 0 w.heap.size aK cK _ HE2.out.fb).mono ?_
  rintro e w9 ⟨rfl, hf9, hx9⟩
  have HE9 : Hid (Lk2 w w9 (Foot B aS aH aF aL) B lo M (toF ⟨c, 2, cur, prev, slot, nn, keys, false, ee⟩ 0) aK cK) := HE2.out.to hf9 hx9
  clear HE2 hf9 hx9
  clear q0 q1 q2 q3 q4 qs f0 f1 f2 f3 f4 f5 f6 f7 f8 f9 f10 f11 f12 f13 ff fs
  obtain ⟨g0, g1, g2, g3, g4, g5, g6, g7, g8, g9, g10, g11, g12, g13, gf, gs⟩ := framef HE9.out.zb
  go_wp2
  refine bodyPost_ret (v := .agg #[.int .i64 (toF ⟨c, 2, cur, prev, slot, nn, keys, false, ee⟩ 0).c.kind, .int .i64 (toF ⟨c, 2, cur, prev, slot, nn, keys, false, ee⟩ 0).c.a, .int .i64 (toF ⟨c, 2, cur, prev, slot, nn, keys, false, ee⟩ 0).c.b, .int .i64 (toF ⟨c, 2, cur, prev, slot, nn, keys, false, ee⟩ 0).c.time, .int .i64 (toF ⟨c, 2, cur, prev, slot, nn, keys, false, ee⟩ 0).c.bk, .int .i64 (toF ⟨c, 2, cur, prev, slot, nn, keys, false, ee⟩ 0).c.slot, .int .i64 (toF ⟨c, 2, cur, prev, slot, nn, keys, false, ee⟩ 0).pl, .int .i64 (toF ⟨c, 2, cur, prev, slot, nn, keys, false, ee⟩ 0).cur, .int .i64 (toF ⟨c, 2, cur, prev, slot, nn, keys, false, ee⟩ 0).prev, .int .i64 (toF ⟨c, 2, cur, prev, slot, nn, keys, false, ee⟩ 0).slot, .int .i64 (toF ⟨c, 2, cur, prev, slot, nn, keys, false, ee⟩ 0).n, .slice aK (toF ⟨c, 2, cur, prev, slot, nn, keys, false, ee⟩ 0).keys.length cK, .bool (toF ⟨c, 2, cur, prev, slot, nn, keys, false, ee⟩ 0).done, .int .i64 (toF ⟨c, 2, cur, prev, slot, nn, keys, false, ee⟩ 0).e]) (by simp [results, Try.results37, go_sem, toF, g0, g1, g2, g3, g4, g5, g6, g7, g8, g9, g10, g11, g12, g13]) rfl ⟨⟨aK, cK, rfl, HR.out.fine HE9.out.end14.2 HZ.out, (fun ad h => .inl h), fun _ => ⟨rfl, rfl⟩⟩, HE9.out.end14⟩

set_option maxHeartbeats 3200000 in
theorem rstep3no (M : Mm) (c : Cl) (cur prev slot nn ee : Int) (keys : List (Int × Int)) (B lo : Nat) (aS aH aF aL : Option Addr) (cS cH cF cL : Nat) (aK : Option Addr) (cK : Nat) (w : World) (b : Nat)
    (m : Mine w B lo aS aH aF aL cS cH cF cL M) (HR : Hid (KRow w aK cK keys)) (HZ : Hid (∀ ad, aK = some ad → ¬ Foot B aS aH aF aL ad.block)) (hc : cur ≤ 0)
    (HBk : Hid (∀ W : World, Calls Try.prog 32 #[.agg #[.slice aS M.slots.length cS, .slice aH M.heads.length cH, .slice aF M.free.length cF, .slice aL M.locks.length cL, .int .i64 M.now], .agg #[.int .i64 c.kind, .int .i64 c.a, .int .i64 c.b, .int .i64 c.time, .int .i64 c.bk, .int .i64 c.slot]] W fun e w' => e = .returned (.int .i64 (b : Int)) ∧ Below W.heap.size W w')) :
    Calls Try.prog 37 #[.pointer (some ⟨B, 0, none⟩), .agg #[.int .i64 c.kind, .int .i64 c.a, .int .i64 c.b, .int .i64 c.time, .int .i64 c.bk, .int .i64 c.slot, .int .i64 3, .int .i64 cur, .int .i64 prev, .int .i64 slot, .int .i64 nn, .slice aK keys.length cK, .bool false, .int .i64 ee]] w fun e w' => Ret w w' e (toF ⟨c, 3, cur, prev, slot, nn, keys, false, ee⟩ 0) aK cK ∧ Has w' B lo (Up w (Foot B aS aH aF aL)) (M) ∧ Fine w w' (Foot B aS aH aF aL) := by
  have hisl : decide (0 < cur) = false := by rw [decide_eq_false_iff_not]; omega
  have HI : Hid (∀ W : World, Calls Try.prog 99 #[.int .i64 cur] W fun e w' => e = .returned (.bool false) ∧ W = w') := fun W => isSlotE _ W hisl
  clear hisl
  obtain ⟨of, hof⟩ : ∃ o : Obj, o = .cells #[.int .i64 c.kind, .int .i64 c.a, .int .i64 c.b, .int .i64 c.time, .int .i64 c.bk, .int .i64 c.slot, .int .i64 3, .int .i64 cur, .int .i64 prev, .int .i64 slot, .int .i64 nn, .slice aK keys.length cK, .bool false, .int .i64 ee] 51 := ⟨_, rfl⟩
  obtain ⟨oz, hoz⟩ : ∃ o : Obj, o = zeroFr := ⟨_, rfl⟩
  have HE : Hid (Lk w ((w.alloc of).alloc oz) B lo aS aH aF aL cS cH cF cL M ⟨c, 3, cur, prev, slot, nn, keys, false, ee⟩ aK cK) := Lk.first m ⟨c, 3, cur, prev, slot, nn, keys, false, ee⟩ aK cK hof hoz
  obtain ⟨f0, f1, f2, f3, f4, f5, f6, f7, f8, f9, f10, f11, f12, f13, ff, fs⟩ := framef (show ((w.alloc of).alloc oz).heap[w.heap.size]? = some (.cells #[.int .i64 c.kind, .int .i64 c.a, .int .i64 c.b, .int .i64 c.time, .int .i64 c.bk, .int .i64 c.slot, .int .i64 3, .int .i64 cur, .int .i64 prev, .int .i64 slot, .int .i64 nn, .slice aK keys.length cK, .bool false, .int .i64 ee] 51 (0, 0)) from HE.out.fb)
  obtain ⟨q0, q1, q2, q3, q4, -, -, -, -, -, qs⟩ := boxf HE.out.m.box
  unfold zeroFr at hoz
  clear m
  go_enter Try.func37, Try.ntmps37
  go_wp2_with fail
  rw [← hof, ← hoz]
  generalize (w.alloc of).alloc oz = W0 at *
  subst hof hoz
  have cB : ∀ (d : Nat) (os : Array Obj), Calls Try.prog 32 #[.agg #[.slice aS M.slots.length cS, .slice aH M.heads.length cH, .slice aF M.free.length cF, .slice aL M.locks.length cL, .int .i64 M.now], .agg #[.int .i64 c.kind, .int .i64 c.a, .int .i64 c.b, .int .i64 c.time, .int .i64 c.bk, .int .i64 c.slot]] (grow (redrawn W0 d) os) fun e w'' => e = .returned (.int .i64 (b : Int)) ∧ ∃ p : Regrown, w'' = grow (redrawn W0 p.d) p.os := fun d os => Calls.regrown_of (HBk.out _)
  have Q0 := cell_regrown q0; have Q1 := cell_regrown q1; have Q2 := cell_regrown q2; have Q3 := cell_regrown q3; have Q4 := cell_regrown q4
  have F0 := cell_regrown f0; have F1 := cell_regrown f1; have F2 := cell_regrown f2; have F3 := cell_regrown f3; have F4 := cell_regrown f4; have F5 := cell_regrown f5
  clear q0 q1 q2 q3 q4 qs f0 f1 f2 f3 f4 f5 f6 f7 f8 f9 f10 f11 f12 f13 ff fs
  refine wp_region_quiet_below (by kernel_rfl) (by kernel_rfl) ?_
  repeat (quiet_step (first | exact cB _ _))
  refine wpQuiet_nil ?_
  intro _ hw'
  obtain ⟨⟨dq, osq⟩, hw''⟩ := hw'
  subst hw''
  have HE1 : Hid (Lk w (grow (redrawn W0 dq) osq) B lo aS aH aF aL cS cH cF cL M ⟨c, 3, cur, prev, slot, nn, keys, false, ee⟩ aK cK) := HE.out.below (below_regrown W0 dq osq)
  generalize grow (redrawn W0 dq) osq = w1 at *
  clear cB Q0 Q1 Q2 Q3 Q4 F0 F1 F2 F3 F4 F5 HE HBk
  obtain ⟨f0, f1, f2, f3, f4, f5, f6, f7, f8, f9, f10, f11, f12, f13, ff, fs⟩ := framef (show w1.heap[w.heap.size]? = some (.cells #[.int .i64 c.kind, .int .i64 c.a, .int .i64 c.b, .int .i64 c.time, .int .i64 c.bk, .int .i64 c.slot, .int .i64 3, .int .i64 cur, .int .i64 prev, .int .i64 slot, .int .i64 nn, .slice aK keys.length cK, .bool false, .int .i64 ee] 51 (0, 0)) from HE1.out.fb)
  obtain ⟨q0, q1, q2, q3, q4, -, -, -, -, -, qs⟩ := boxf HE1.out.m.box
  go_wp2_with (go_at_call 99; refine (HI.out _).mono ?_; rintro e w3 ⟨rfl, rfl⟩)
  have HE2 : Hid (Lk2 w _ (Foot B aS aH aF aL) B lo M ⟨c, 3, cur, prev, slot, nn, keys, false, ee⟩ aK cK) := HE1.out.bare
  clear HE1
  refine (rto_any ⟨c, 3, cur, prev, slot, nn, keys, false, ee⟩ 0 w.heap.size aK cK _ HE2.out.fb).mono ?_
  rintro e w9 ⟨rfl, hf9, hx9⟩
  have HE9 : Hid (Lk2 w w9 (Foot B aS aH aF aL) B lo M (toF ⟨c, 3, cur, prev, slot, nn, keys, false, ee⟩ 0) aK cK) := HE2.out.to hf9 hx9
  clear HE2 hf9 hx9
  clear q0 q1 q2 q3 q4 qs f0 f1 f2 f3 f4 f5 f6 f7 f8 f9 f10 f11 f12 f13 ff fs
  obtain ⟨g0, g1, g2, g3, g4, g5, g6, g7, g8, g9, g10, g11, g12, g13, gf, gs⟩ := framef HE9.out.zb
  go_wp2
  refine bodyPost_ret (v := .agg #[.int .i64 (toF ⟨c, 3, cur, prev, slot, nn, keys, false, ee⟩ 0).c.kind, .int .i64 (toF ⟨c, 3, cur, prev, slot, nn, keys, false, ee⟩ 0).c.a, .int .i64 (toF ⟨c, 3, cur, prev, slot, nn, keys, false, ee⟩ 0).c.b, .int .i64 (toF ⟨c, 3, cur, prev, slot, nn, keys, false, ee⟩ 0).c.time, .int .i64 (toF ⟨c, 3, cur, prev, slot, nn, keys, false, ee⟩ 0).c.bk, .int .i64 (toF ⟨c, 3, cur, prev, slot, nn, keys, false, ee⟩ 0).c.slot, .int .i64 (toF ⟨c, 3, cur, prev, slot, nn, keys, false, ee⟩ 0).pl, .int .i64 (toF ⟨c, 3, cur, prev, slot, nn, keys, false, ee⟩ 0).cur, .int .i64 (toF ⟨c, 3, cur, prev, slot, nn, keys, false, ee⟩ 0).prev, .int .i64 (toF ⟨c, 3, cur, prev, slot, nn, keys, false, ee⟩ 0).slot, .int .i64 (toF ⟨c, 3, cur, prev, slot, nn, keys, false, ee⟩ 0).n, .slice aK (toF ⟨c, 3, cur, prev, slot, nn, keys, false, ee⟩ 0).keys.length cK, .bool (toF ⟨c, 3, cur, prev, slot, nn, keys, false, ee⟩ 0).done, .int .i64 (toF ⟨c, 3, cur, prev, slot, nn, keys, false, ee⟩ 0).e]) (by simp [results, Try.results37, go_sem, toF, g0, g1, g2, g3, g4, g5, g6, g7, g8, g9, g10, g11, g12, g13]) rfl ⟨⟨aK, cK, rfl, HR.out.fine HE9.out.end14.2 HZ.out, (fun ad h => .inl h), fun _ => ⟨rfl, rfl⟩⟩, HE9.out.end14⟩


end Go.Proofs.Ytdbilofhcadmoab.mm
