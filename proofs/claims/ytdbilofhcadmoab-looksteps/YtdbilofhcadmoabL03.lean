/- The contract of the document's own LookStep: where it holds and puts. -/
import Derived.Test.YtdbilofhcadmoabL01
import Derived.BigRegion
namespace Go.Proofs.Ytdbilofhcadmoab.mm
open Go.ChangeShapes Go.WideShapes Go.ChangeAt Go.RowKit Go.Joins Go.Deep Go.Sort
set_option maxRecDepth 100000
set_option linter.unusedVariables false

theorem isSlotE2 (n : Int) (w : World) {r : Bool} (h : decide (0 < n) = r) : Calls Try.prog 99 #[.int .i64 n] w fun e w' => e = .returned (.bool r) ∧ w = w' := by
  subst h
  go_enter Try.func99, Try.ntmps99
  go_wp2
  go_ret
  exact ⟨rfl, rfl⟩

set_option maxHeartbeats 3200000 in
theorem rstep3true (M : Mm) (c : Cl) (prev slot nn ee : Int) (keys : List (Int × Int)) (B lo : Nat) (aS aH aF aL : Option Addr) (cS cH cF cL : Nat) (aK : Option Addr) (cK : Nat) (w : World) (b : Nat)
    (m : Mine w B lo aS aH aF aL cS cH cF cL M) (HR : Hid (KRow w aK cK keys)) (HZ : Hid (∀ ad, aK = some ad → ¬ Foot B aS aH aF aL ad.block)) (j : Nat) (M' : Mm) (hns : M.slots.length ≤ 12) (hj : j < M.slots.length) (HHd : Hid (∀ (W : World) (Z : Nat → Prop), Has W B lo Z M → Calls Try.prog 101 #[.pointer (some ⟨B, 0, none⟩), .int .i64 (j : Int)] W fun e w' => e = .returned (.bool true) ∧ Has w' B lo (Up W Z) M' ∧ Fine W w' Z))
    (HBk : Hid (∀ W : World, Calls Try.prog 32 #[.agg #[.slice aS M.slots.length cS, .slice aH M.heads.length cH, .slice aF M.free.length cF, .slice aL M.locks.length cL, .int .i64 M.now], .agg #[.int .i64 c.kind, .int .i64 c.a, .int .i64 c.b, .int .i64 c.time, .int .i64 c.bk, .int .i64 c.slot]] W fun e w' => e = .returned (.int .i64 (b : Int)) ∧ Below W.heap.size W w')) :
    Calls Try.prog 37 #[.pointer (some ⟨B, 0, none⟩), .agg #[.int .i64 c.kind, .int .i64 c.a, .int .i64 c.b, .int .i64 c.time, .int .i64 c.bk, .int .i64 c.slot, .int .i64 3, .int .i64 ((j : Int) + 1), .int .i64 prev, .int .i64 slot, .int .i64 nn, .slice aK keys.length cK, .bool false, .int .i64 ee]] w fun e w' => Ret w w' e (handF ⟨c, 3, (j : Int) + 1, prev, slot, nn, keys, false, ee⟩ (j : Int) 4) aK cK ∧ Has w' B lo (Up w (Foot B aS aH aF aL)) (M') ∧ Fine w w' (Foot B aS aH aF aL) := by
  have hisl : decide (0 < (j : Int) + 1) = true := by rw [decide_eq_true_iff]; omega
  have HI : Hid (∀ W : World, Calls Try.prog 99 #[.int .i64 ((j : Int) + 1)] W fun e w' => e = .returned (.bool true) ∧ W = w') := fun W => isSlotE2 _ W hisl
  clear hisl
  have hw1 : IntKind.i64.wrap ((j : Int) + 1 - 1) = (j : Int) := by rw [IntKind.wrap_i64]; omega
  have hw2 : wrap64 ((j : Int) + 1 - 1) = (j : Int) := by unfold wrap64; omega
  have hw3 : (j : Int) + 1 - 1 = (j : Int) := by omega
  obtain ⟨of, hof⟩ : ∃ o : Obj, o = .cells #[.int .i64 c.kind, .int .i64 c.a, .int .i64 c.b, .int .i64 c.time, .int .i64 c.bk, .int .i64 c.slot, .int .i64 3, .int .i64 ((j : Int) + 1), .int .i64 prev, .int .i64 slot, .int .i64 nn, .slice aK keys.length cK, .bool false, .int .i64 ee] 51 := ⟨_, rfl⟩
  obtain ⟨oz, hoz⟩ : ∃ o : Obj, o = zeroFr := ⟨_, rfl⟩
  have HE : Hid (Lk w ((w.alloc of).alloc oz) B lo aS aH aF aL cS cH cF cL M ⟨c, 3, ((j : Int) + 1), prev, slot, nn, keys, false, ee⟩ aK cK) := Lk.first m ⟨c, 3, ((j : Int) + 1), prev, slot, nn, keys, false, ee⟩ aK cK hof hoz
  obtain ⟨f0, f1, f2, f3, f4, f5, f6, f7, f8, f9, f10, f11, f12, f13, ff, fs⟩ := framef (show ((w.alloc of).alloc oz).heap[w.heap.size]? = some (.cells #[.int .i64 c.kind, .int .i64 c.a, .int .i64 c.b, .int .i64 c.time, .int .i64 c.bk, .int .i64 c.slot, .int .i64 3, .int .i64 ((j : Int) + 1), .int .i64 prev, .int .i64 slot, .int .i64 nn, .slice aK keys.length cK, .bool false, .int .i64 ee] 51 (0, 0)) from HE.out.fb)
  obtain ⟨q0, q1, q2, q3, q4, -, -, -, -, -, qs⟩ := boxf HE.out.m.box
  unfold zeroFr at hoz
  clear m
  go_enter Try.func37, Try.ntmps37
  go_wp2_with fail
  rw [← hof, ← hoz]
  generalize (w.alloc of).alloc oz = W0 at *
  subst hof hoz
  have cB : ∀ (d : Nat) (os : Array Obj), Calls Try.prog 32 #[.agg #[.slice aS M.slots.length cS, .slice aH M.heads.length cH, .slice aF M.free.length cF, .slice aL M.locks.length cL, .int .i64 M.now], .agg #[.int .i64 c.kind, .int .i64 c.a, .int .i64 c.b, .int .i64 c.time, .int .i64 c.bk, .int .i64 c.slot]] (grow (redrawn W0 d) os) fun e w'' => e = .returned (.int .i64 (b : Int)) ∧ ∃ p : Regrown, w'' = grow (redrawn W0 p.d) p.os := fun d os => Calls.regrown_of (HBk.out _)
  have Q0 := cell_regrown q0; have Q1 := cell_regrown q1; have Q2 := cell_regrown q2; have Q3 := cell_regrown q3; have Q4 := cell_regrown q4
  have F0 := cell_regrown f0; have F1 := cell_regrown f1; have F2 := cell_regrown f2; have F3 := cell_regrown f3; have F4 := cell_regrown f4; have F5 := cell_regrown f5
  clear q0 q1 q2 q3 q4 qs f0 f1 f2 f3 f4 f5 f6 f7 f8 f9 f10 f11 f12 f13 ff fs
  refine wp_region_quiet_below (by kernel_rfl) (by kernel_rfl) ?_
  repeat (quiet_step (first | exact cB _ _))
  refine wpQuiet_nil ?_
  intro _ hw'
  obtain ⟨⟨dq, osq⟩, hw''⟩ := hw'
  subst hw''
  have HE1 : Hid (Lk w (grow (redrawn W0 dq) osq) B lo aS aH aF aL cS cH cF cL M ⟨c, 3, ((j : Int) + 1), prev, slot, nn, keys, false, ee⟩ aK cK) := HE.out.below (below_regrown W0 dq osq)
  generalize grow (redrawn W0 dq) osq = w1 at *
  clear cB Q0 Q1 Q2 Q3 Q4 F0 F1 F2 F3 F4 F5 HE HBk
  obtain ⟨f0, f1, f2, f3, f4, f5, f6, f7, f8, f9, f10, f11, f12, f13, ff, fs⟩ := framef (show w1.heap[w.heap.size]? = some (.cells #[.int .i64 c.kind, .int .i64 c.a, .int .i64 c.b, .int .i64 c.time, .int .i64 c.bk, .int .i64 c.slot, .int .i64 3, .int .i64 ((j : Int) + 1), .int .i64 prev, .int .i64 slot, .int .i64 nn, .slice aK keys.length cK, .bool false, .int .i64 ee] 51 (0, 0)) from HE1.out.fb)
  obtain ⟨q0, q1, q2, q3, q4, -, -, -, -, -, qs⟩ := boxf HE1.out.m.box
  go_wp2_with (go_at_call 99; refine (HI.out _).mono ?_; rintro e w3 ⟨rfl, rfl⟩)
  refine (HHd.out w1 (Foot B aS aH aF aL) ⟨_, _, _, _, _, _, _, _, HE1.out.m, fun _ h => h⟩).mono ?_
  rintro e w2 ⟨rfl, hh2, hf2⟩
  have HE2 : Hid (Lk2 w w2 (Foot B aS aH aF aL) B lo M' ⟨c, 3, (j : Int) + 1, prev, slot, nn, keys, false, ee⟩ aK cK) := HE1.out.after hh2 hf2
  clear HE1 hh2 hf2 q0 q1 q2 q3 q4 qs f0 f1 f2 f3 f4 f5 f6 f7 f8 f9 f10 f11 f12 f13 ff fs
  obtain ⟨f0, f1, f2, f3, f4, f5, f6, f7, f8, f9, f10, f11, f12, f13, ff, fs⟩ := framef (show w2.heap[w.heap.size]? = some (.cells #[.int .i64 c.kind, .int .i64 c.a, .int .i64 c.b, .int .i64 c.time, .int .i64 c.bk, .int .i64 c.slot, .int .i64 3, .int .i64 ((j : Int) + 1), .int .i64 prev, .int .i64 slot, .int .i64 nn, .slice aK keys.length cK, .bool false, .int .i64 ee] 51 (0, 0)) from HE2.out.fb)
  go_wp2_with fail
  have HE3 : Hid (Lk2 w (w2.setCell ⟨w.heap.size, 9, none⟩ (.int .i64 (j : Int))) (Foot B aS aH aF aL) B lo M' ⟨c, 3, (j : Int) + 1, prev, (j : Int), nn, keys, false, ee⟩ aK cK) := HE2.out.store 9 (.int .i64 (j : Int)) ⟨c, 3, (j : Int) + 1, prev, (j : Int), nn, keys, false, ee⟩ rfl
  clear HE2
  refine (rto_any ⟨c, 3, (j : Int) + 1, prev, (j : Int), nn, keys, false, ee⟩ 4 w.heap.size aK cK _ HE3.out.fb).mono ?_
  rintro e w9 ⟨rfl, hf9, hx9⟩
  have HE9 : Hid (Lk2 w w9 (Foot B aS aH aF aL) B lo M' (toF ⟨c, 3, (j : Int) + 1, prev, (j : Int), nn, keys, false, ee⟩ 4) aK cK) := HE3.out.to hf9 hx9
  clear HE3 hf9 hx9
  clear f0 f1 f2 f3 f4 f5 f6 f7 f8 f9 f10 f11 f12 f13 ff fs
  obtain ⟨g0, g1, g2, g3, g4, g5, g6, g7, g8, g9, g10, g11, g12, g13, gf, gs⟩ := framef HE9.out.zb
  go_wp2
  refine bodyPost_ret (v := .agg #[.int .i64 (handF ⟨c, 3, (j : Int) + 1, prev, slot, nn, keys, false, ee⟩ (j : Int) 4).c.kind, .int .i64 (handF ⟨c, 3, (j : Int) + 1, prev, slot, nn, keys, false, ee⟩ (j : Int) 4).c.a, .int .i64 (handF ⟨c, 3, (j : Int) + 1, prev, slot, nn, keys, false, ee⟩ (j : Int) 4).c.b, .int .i64 (handF ⟨c, 3, (j : Int) + 1, prev, slot, nn, keys, false, ee⟩ (j : Int) 4).c.time, .int .i64 (handF ⟨c, 3, (j : Int) + 1, prev, slot, nn, keys, false, ee⟩ (j : Int) 4).c.bk, .int .i64 (handF ⟨c, 3, (j : Int) + 1, prev, slot, nn, keys, false, ee⟩ (j : Int) 4).c.slot, .int .i64 (handF ⟨c, 3, (j : Int) + 1, prev, slot, nn, keys, false, ee⟩ (j : Int) 4).pl, .int .i64 (handF ⟨c, 3, (j : Int) + 1, prev, slot, nn, keys, false, ee⟩ (j : Int) 4).cur, .int .i64 (handF ⟨c, 3, (j : Int) + 1, prev, slot, nn, keys, false, ee⟩ (j : Int) 4).prev, .int .i64 (handF ⟨c, 3, (j : Int) + 1, prev, slot, nn, keys, false, ee⟩ (j : Int) 4).slot, .int .i64 (handF ⟨c, 3, (j : Int) + 1, prev, slot, nn, keys, false, ee⟩ (j : Int) 4).n, .slice aK (handF ⟨c, 3, (j : Int) + 1, prev, slot, nn, keys, false, ee⟩ (j : Int) 4).keys.length cK, .bool (handF ⟨c, 3, (j : Int) + 1, prev, slot, nn, keys, false, ee⟩ (j : Int) 4).done, .int .i64 (handF ⟨c, 3, (j : Int) + 1, prev, slot, nn, keys, false, ee⟩ (j : Int) 4).e]) (by simp [results, Try.results37, go_sem, handF, toF, g0, g1, g2, g3, g4, g5, g6, g7, g8, g9, g10, g11, g12, g13]) rfl ⟨⟨aK, cK, rfl, HR.out.fine HE9.out.end14.2 HZ.out, (fun ad h => .inl h), fun _ => ⟨rfl, rfl⟩⟩, HE9.out.end14⟩

set_option maxHeartbeats 3200000 in
theorem rstep3false (M : Mm) (c : Cl) (prev slot nn ee : Int) (keys : List (Int × Int)) (B lo : Nat) (aS aH aF aL : Option Addr) (cS cH cF cL : Nat) (aK : Option Addr) (cK : Nat) (w : World) (b : Nat)
    (m : Mine w B lo aS aH aF aL cS cH cF cL M) (HR : Hid (KRow w aK cK keys)) (HZ : Hid (∀ ad, aK = some ad → ¬ Foot B aS aH aF aL ad.block)) (j : Nat) (M' : Mm) (hns : M.slots.length ≤ 12) (hj : j < M.slots.length) (HHd : Hid (∀ (W : World) (Z : Nat → Prop), Has W B lo Z M → Calls Try.prog 101 #[.pointer (some ⟨B, 0, none⟩), .int .i64 (j : Int)] W fun e w' => e = .returned (.bool false) ∧ Has w' B lo (Up W Z) M' ∧ Fine W w' Z))
    (HBk : Hid (∀ W : World, Calls Try.prog 32 #[.agg #[.slice aS M.slots.length cS, .slice aH M.heads.length cH, .slice aF M.free.length cF, .slice aL M.locks.length cL, .int .i64 M.now], .agg #[.int .i64 c.kind, .int .i64 c.a, .int .i64 c.b, .int .i64 c.time, .int .i64 c.bk, .int .i64 c.slot]] W fun e w' => e = .returned (.int .i64 (b : Int)) ∧ Below W.heap.size W w')) :
    Calls Try.prog 37 #[.pointer (some ⟨B, 0, none⟩), .agg #[.int .i64 c.kind, .int .i64 c.a, .int .i64 c.b, .int .i64 c.time, .int .i64 c.bk, .int .i64 c.slot, .int .i64 3, .int .i64 ((j : Int) + 1), .int .i64 prev, .int .i64 slot, .int .i64 nn, .slice aK keys.length cK, .bool false, .int .i64 ee]] w fun e w' => Ret w w' e (toF ⟨c, 3, (j : Int) + 1, prev, slot, nn, keys, false, ee⟩ 0) aK cK ∧ Has w' B lo (Up w (Foot B aS aH aF aL)) (M') ∧ Fine w w' (Foot B aS aH aF aL) := by
  have hisl : decide (0 < (j : Int) + 1) = true := by rw [decide_eq_true_iff]; omega
  have HI : Hid (∀ W : World, Calls Try.prog 99 #[.int .i64 ((j : Int) + 1)] W fun e w' => e = .returned (.bool true) ∧ W = w') := fun W => isSlotE2 _ W hisl
  clear hisl
  have hw1 : IntKind.i64.wrap ((j : Int) + 1 - 1) = (j : Int) := by rw [IntKind.wrap_i64]; omega
  have hw2 : wrap64 ((j : Int) + 1 - 1) = (j : Int) := by unfold wrap64; omega
  have hw3 : (j : Int) + 1 - 1 = (j : Int) := by omega
  obtain ⟨of, hof⟩ : ∃ o : Obj, o = .cells #[.int .i64 c.kind, .int .i64 c.a, .int .i64 c.b, .int .i64 c.time, .int .i64 c.bk, .int .i64 c.slot, .int .i64 3, .int .i64 ((j : Int) + 1), .int .i64 prev, .int .i64 slot, .int .i64 nn, .slice aK keys.length cK, .bool false, .int .i64 ee] 51 := ⟨_, rfl⟩
  obtain ⟨oz, hoz⟩ : ∃ o : Obj, o = zeroFr := ⟨_, rfl⟩
  have HE : Hid (Lk w ((w.alloc of).alloc oz) B lo aS aH aF aL cS cH cF cL M ⟨c, 3, ((j : Int) + 1), prev, slot, nn, keys, false, ee⟩ aK cK) := Lk.first m ⟨c, 3, ((j : Int) + 1), prev, slot, nn, keys, false, ee⟩ aK cK hof hoz
  obtain ⟨f0, f1, f2, f3, f4, f5, f6, f7, f8, f9, f10, f11, f12, f13, ff, fs⟩ := framef (show ((w.alloc of).alloc oz).heap[w.heap.size]? = some (.cells #[.int .i64 c.kind, .int .i64 c.a, .int .i64 c.b, .int .i64 c.time, .int .i64 c.bk, .int .i64 c.slot, .int .i64 3, .int .i64 ((j : Int) + 1), .int .i64 prev, .int .i64 slot, .int .i64 nn, .slice aK keys.length cK, .bool false, .int .i64 ee] 51 (0, 0)) from HE.out.fb)
  obtain ⟨q0, q1, q2, q3, q4, -, -, -, -, -, qs⟩ := boxf HE.out.m.box
  unfold zeroFr at hoz
  clear m
  go_enter Try.func37, Try.ntmps37
  go_wp2_with fail
  rw [← hof, ← hoz]
  generalize (w.alloc of).alloc oz = W0 at *
  subst hof hoz
  have cB : ∀ (d : Nat) (os : Array Obj), Calls Try.prog 32 #[.agg #[.slice aS M.slots.length cS, .slice aH M.heads.length cH, .slice aF M.free.length cF, .slice aL M.locks.length cL, .int .i64 M.now], .agg #[.int .i64 c.kind, .int .i64 c.a, .int .i64 c.b, .int .i64 c.time, .int .i64 c.bk, .int .i64 c.slot]] (grow (redrawn W0 d) os) fun e w'' => e = .returned (.int .i64 (b : Int)) ∧ ∃ p : Regrown, w'' = grow (redrawn W0 p.d) p.os := fun d os => Calls.regrown_of (HBk.out _)
  have Q0 := cell_regrown q0; have Q1 := cell_regrown q1; have Q2 := cell_regrown q2; have Q3 := cell_regrown q3; have Q4 := cell_regrown q4
  have F0 := cell_regrown f0; have F1 := cell_regrown f1; have F2 := cell_regrown f2; have F3 := cell_regrown f3; have F4 := cell_regrown f4; have F5 := cell_regrown f5
  clear q0 q1 q2 q3 q4 qs f0 f1 f2 f3 f4 f5 f6 f7 f8 f9 f10 f11 f12 f13 ff fs
  refine wp_region_quiet_below (by kernel_rfl) (by kernel_rfl) ?_
  repeat (quiet_step (first | exact cB _ _))
  refine wpQuiet_nil ?_
  intro _ hw'
  obtain ⟨⟨dq, osq⟩, hw''⟩ := hw'
  subst hw''
  have HE1 : Hid (Lk w (grow (redrawn W0 dq) osq) B lo aS aH aF aL cS cH cF cL M ⟨c, 3, ((j : Int) + 1), prev, slot, nn, keys, false, ee⟩ aK cK) := HE.out.below (below_regrown W0 dq osq)
  generalize grow (redrawn W0 dq) osq = w1 at *
  clear cB Q0 Q1 Q2 Q3 Q4 F0 F1 F2 F3 F4 F5 HE HBk
  obtain ⟨f0, f1, f2, f3, f4, f5, f6, f7, f8, f9, f10, f11, f12, f13, ff, fs⟩ := framef (show w1.heap[w.heap.size]? = some (.cells #[.int .i64 c.kind, .int .i64 c.a, .int .i64 c.b, .int .i64 c.time, .int .i64 c.bk, .int .i64 c.slot, .int .i64 3, .int .i64 ((j : Int) + 1), .int .i64 prev, .int .i64 slot, .int .i64 nn, .slice aK keys.length cK, .bool false, .int .i64 ee] 51 (0, 0)) from HE1.out.fb)
  obtain ⟨q0, q1, q2, q3, q4, -, -, -, -, -, qs⟩ := boxf HE1.out.m.box
  go_wp2_with (go_at_call 99; refine (HI.out _).mono ?_; rintro e w3 ⟨rfl, rfl⟩)
  refine (HHd.out w1 (Foot B aS aH aF aL) ⟨_, _, _, _, _, _, _, _, HE1.out.m, fun _ h => h⟩).mono ?_
  rintro e w2 ⟨rfl, hh2, hf2⟩
  have HE2 : Hid (Lk2 w w2 (Foot B aS aH aF aL) B lo M' ⟨c, 3, (j : Int) + 1, prev, slot, nn, keys, false, ee⟩ aK cK) := HE1.out.after hh2 hf2
  clear HE1 hh2 hf2 q0 q1 q2 q3 q4 qs f0 f1 f2 f3 f4 f5 f6 f7 f8 f9 f10 f11 f12 f13 ff fs
  obtain ⟨f0, f1, f2, f3, f4, f5, f6, f7, f8, f9, f10, f11, f12, f13, ff, fs⟩ := framef (show w2.heap[w.heap.size]? = some (.cells #[.int .i64 c.kind, .int .i64 c.a, .int .i64 c.b, .int .i64 c.time, .int .i64 c.bk, .int .i64 c.slot, .int .i64 3, .int .i64 ((j : Int) + 1), .int .i64 prev, .int .i64 slot, .int .i64 nn, .slice aK keys.length cK, .bool false, .int .i64 ee] 51 (0, 0)) from HE2.out.fb)
  go_wp2_with fail
  refine (rto_any ⟨c, 3, (j : Int) + 1, prev, slot, nn, keys, false, ee⟩ 0 w.heap.size aK cK _ HE2.out.fb).mono ?_
  rintro e w9 ⟨rfl, hf9, hx9⟩
  have HE9 : Hid (Lk2 w w9 (Foot B aS aH aF aL) B lo M' (toF ⟨c, 3, (j : Int) + 1, prev, slot, nn, keys, false, ee⟩ 0) aK cK) := HE2.out.to hf9 hx9
  clear HE2 hf9 hx9
  clear f0 f1 f2 f3 f4 f5 f6 f7 f8 f9 f10 f11 f12 f13 ff fs
  obtain ⟨g0, g1, g2, g3, g4, g5, g6, g7, g8, g9, g10, g11, g12, g13, gf, gs⟩ := framef HE9.out.zb
  go_wp2
  refine bodyPost_ret (v := .agg #[.int .i64 (toF ⟨c, 3, (j : Int) + 1, prev, slot, nn, keys, false, ee⟩ 0).c.kind, .int .i64 (toF ⟨c, 3, (j : Int) + 1, prev, slot, nn, keys, false, ee⟩ 0).c.a, .int .i64 (toF ⟨c, 3, (j : Int) + 1, prev, slot, nn, keys, false, ee⟩ 0).c.b, .int .i64 (toF ⟨c, 3, (j : Int) + 1, prev, slot, nn, keys, false, ee⟩ 0).c.time, .int .i64 (toF ⟨c, 3, (j : Int) + 1, prev, slot, nn, keys, false, ee⟩ 0).c.bk, .int .i64 (toF ⟨c, 3, (j : Int) + 1, prev, slot, nn, keys, false, ee⟩ 0).c.slot, .int .i64 (toF ⟨c, 3, (j : Int) + 1, prev, slot, nn, keys, false, ee⟩ 0).pl, .int .i64 (toF ⟨c, 3, (j : Int) + 1, prev, slot, nn, keys, false, ee⟩ 0).cur, .int .i64 (toF ⟨c, 3, (j : Int) + 1, prev, slot, nn, keys, false, ee⟩ 0).prev, .int .i64 (toF ⟨c, 3, (j : Int) + 1, prev, slot, nn, keys, false, ee⟩ 0).slot, .int .i64 (toF ⟨c, 3, (j : Int) + 1, prev, slot, nn, keys, false, ee⟩ 0).n, .slice aK (toF ⟨c, 3, (j : Int) + 1, prev, slot, nn, keys, false, ee⟩ 0).keys.length cK, .bool (toF ⟨c, 3, (j : Int) + 1, prev, slot, nn, keys, false, ee⟩ 0).done, .int .i64 (toF ⟨c, 3, (j : Int) + 1, prev, slot, nn, keys, false, ee⟩ 0).e]) (by simp [results, Try.results37, go_sem, toF, g0, g1, g2, g3, g4, g5, g6, g7, g8, g9, g10, g11, g12, g13]) rfl ⟨⟨aK, cK, rfl, HR.out.fine HE9.out.end14.2 HZ.out, (fun ad h => .inl h), fun _ => ⟨rfl, rfl⟩⟩, HE9.out.end14⟩

set_option maxHeartbeats 3200000 in
theorem rstep5 (M : Mm) (c : Cl) (cur prev slot nn ee : Int) (keys : List (Int × Int)) (B lo : Nat) (aS aH aF aL : Option Addr) (cS cH cF cL : Nat) (aK : Option Addr) (cK : Nat) (w : World) (b : Nat)
    (m : Mine w B lo aS aH aF aL cS cH cF cL M) (HR : Hid (KRow w aK cK keys)) (HZ : Hid (∀ ad, aK = some ad → ¬ Foot B aS aH aF aL ad.block)) (M' : Mm) (hs : 0 ≤ slot) (HPt : Hid (∀ (W : World) (Z : Nat → Prop), Has W B lo Z M → Calls Try.prog 102 #[.pointer (some ⟨B, 0, none⟩), .int .i64 slot] W fun e w' => e = .returned (.tuple #[]) ∧ Has w' B lo (Up W Z) M' ∧ Fine W w' Z))
    (HBk : Hid (∀ W : World, Calls Try.prog 32 #[.agg #[.slice aS M.slots.length cS, .slice aH M.heads.length cH, .slice aF M.free.length cF, .slice aL M.locks.length cL, .int .i64 M.now], .agg #[.int .i64 c.kind, .int .i64 c.a, .int .i64 c.b, .int .i64 c.time, .int .i64 c.bk, .int .i64 c.slot]] W fun e w' => e = .returned (.int .i64 (b : Int)) ∧ Below W.heap.size W w')) :
    Calls Try.prog 37 #[.pointer (some ⟨B, 0, none⟩), .agg #[.int .i64 c.kind, .int .i64 c.a, .int .i64 c.b, .int .i64 c.time, .int .i64 c.bk, .int .i64 c.slot, .int .i64 5, .int .i64 cur, .int .i64 prev, .int .i64 slot, .int .i64 nn, .slice aK keys.length cK, .bool false, .int .i64 ee]] w fun e w' => Ret w w' e (handF ⟨c, 5, cur, prev, slot, nn, keys, false, ee⟩ (-1) 0) aK cK ∧ Has w' B lo (Up w (Foot B aS aH aF aL)) (M') ∧ Fine w w' (Foot B aS aH aF aL) := by
  obtain ⟨of, hof⟩ : ∃ o : Obj, o = .cells #[.int .i64 c.kind, .int .i64 c.a, .int .i64 c.b, .int .i64 c.time, .int .i64 c.bk, .int .i64 c.slot, .int .i64 5, .int .i64 cur, .int .i64 prev, .int .i64 slot, .int .i64 nn, .slice aK keys.length cK, .bool false, .int .i64 ee] 51 := ⟨_, rfl⟩
  obtain ⟨oz, hoz⟩ : ∃ o : Obj, o = zeroFr := ⟨_, rfl⟩
  have HE : Hid (Lk w ((w.alloc of).alloc oz) B lo aS aH aF aL cS cH cF cL M ⟨c, 5, cur, prev, slot, nn, keys, false, ee⟩ aK cK) := Lk.first m ⟨c, 5, cur, prev, slot, nn, keys, false, ee⟩ aK cK hof hoz
  obtain ⟨f0, f1, f2, f3, f4, f5, f6, f7, f8, f9, f10, f11, f12, f13, ff, fs⟩ := framef (show ((w.alloc of).alloc oz).heap[w.heap.size]? = some (.cells #[.int .i64 c.kind, .int .i64 c.a, .int .i64 c.b, .int .i64 c.time, .int .i64 c.bk, .int .i64 c.slot, .int .i64 5, .int .i64 cur, .int .i64 prev, .int .i64 slot, .int .i64 nn, .slice aK keys.length cK, .bool false, .int .i64 ee] 51 (0, 0)) from HE.out.fb)
  obtain ⟨q0, q1, q2, q3, q4, -, -, -, -, -, qs⟩ := boxf HE.out.m.box
  unfold zeroFr at hoz
  clear m
  go_enter Try.func37, Try.ntmps37
  go_wp2_with fail
  rw [← hof, ← hoz]
  generalize (w.alloc of).alloc oz = W0 at *
  subst hof hoz
  have cB : ∀ (d : Nat) (os : Array Obj), Calls Try.prog 32 #[.agg #[.slice aS M.slots.length cS, .slice aH M.heads.length cH, .slice aF M.free.length cF, .slice aL M.locks.length cL, .int .i64 M.now], .agg #[.int .i64 c.kind, .int .i64 c.a, .int .i64 c.b, .int .i64 c.time, .int .i64 c.bk, .int .i64 c.slot]] (grow (redrawn W0 d) os) fun e w'' => e = .returned (.int .i64 (b : Int)) ∧ ∃ p : Regrown, w'' = grow (redrawn W0 p.d) p.os := fun d os => Calls.regrown_of (HBk.out _)
  have Q0 := cell_regrown q0; have Q1 := cell_regrown q1; have Q2 := cell_regrown q2; have Q3 := cell_regrown q3; have Q4 := cell_regrown q4
  have F0 := cell_regrown f0; have F1 := cell_regrown f1; have F2 := cell_regrown f2; have F3 := cell_regrown f3; have F4 := cell_regrown f4; have F5 := cell_regrown f5
  clear q0 q1 q2 q3 q4 qs f0 f1 f2 f3 f4 f5 f6 f7 f8 f9 f10 f11 f12 f13 ff fs
  refine wp_region_quiet_below (by kernel_rfl) (by kernel_rfl) ?_
  repeat (quiet_step (first | exact cB _ _))
  refine wpQuiet_nil ?_
  intro _ hw'
  obtain ⟨⟨dq, osq⟩, hw''⟩ := hw'
  subst hw''
  have HE1 : Hid (Lk w (grow (redrawn W0 dq) osq) B lo aS aH aF aL cS cH cF cL M ⟨c, 5, cur, prev, slot, nn, keys, false, ee⟩ aK cK) := HE.out.below (below_regrown W0 dq osq)
  generalize grow (redrawn W0 dq) osq = w1 at *
  clear cB Q0 Q1 Q2 Q3 Q4 F0 F1 F2 F3 F4 F5 HE HBk
  obtain ⟨f0, f1, f2, f3, f4, f5, f6, f7, f8, f9, f10, f11, f12, f13, ff, fs⟩ := framef (show w1.heap[w.heap.size]? = some (.cells #[.int .i64 c.kind, .int .i64 c.a, .int .i64 c.b, .int .i64 c.time, .int .i64 c.bk, .int .i64 c.slot, .int .i64 5, .int .i64 cur, .int .i64 prev, .int .i64 slot, .int .i64 nn, .slice aK keys.length cK, .bool false, .int .i64 ee] 51 (0, 0)) from HE1.out.fb)
  obtain ⟨q0, q1, q2, q3, q4, -, -, -, -, -, qs⟩ := boxf HE1.out.m.box
  go_wp2_with fail
  refine (HPt.out w1 (Foot B aS aH aF aL) ⟨_, _, _, _, _, _, _, _, HE1.out.m, fun _ h => h⟩).mono ?_
  rintro e w2 ⟨rfl, hh2, hf2⟩
  have HE2 : Hid (Lk2 w w2 (Foot B aS aH aF aL) B lo M' ⟨c, 5, cur, prev, slot, nn, keys, false, ee⟩ aK cK) := HE1.out.after hh2 hf2
  clear HE1 hh2 hf2 q0 q1 q2 q3 q4 qs f0 f1 f2 f3 f4 f5 f6 f7 f8 f9 f10 f11 f12 f13 ff fs
  obtain ⟨f0, f1, f2, f3, f4, f5, f6, f7, f8, f9, f10, f11, f12, f13, ff, fs⟩ := framef (show w2.heap[w.heap.size]? = some (.cells #[.int .i64 c.kind, .int .i64 c.a, .int .i64 c.b, .int .i64 c.time, .int .i64 c.bk, .int .i64 c.slot, .int .i64 5, .int .i64 cur, .int .i64 prev, .int .i64 slot, .int .i64 nn, .slice aK keys.length cK, .bool false, .int .i64 ee] 51 (0, 0)) from HE2.out.fb)
  go_wp2_with fail
  have HE3 : Hid (Lk2 w (w2.setCell ⟨w.heap.size, 9, none⟩ (.int .i64 (-1))) (Foot B aS aH aF aL) B lo M' ⟨c, 5, cur, prev, -1, nn, keys, false, ee⟩ aK cK) := HE2.out.store 9 (.int .i64 (-1)) ⟨c, 5, cur, prev, -1, nn, keys, false, ee⟩ rfl
  clear HE2
  refine (rto_any ⟨c, 5, cur, prev, -1, nn, keys, false, ee⟩ 0 w.heap.size aK cK _ HE3.out.fb).mono ?_
  rintro e w9 ⟨rfl, hf9, hx9⟩
  have HE9 : Hid (Lk2 w w9 (Foot B aS aH aF aL) B lo M' (toF ⟨c, 5, cur, prev, -1, nn, keys, false, ee⟩ 0) aK cK) := HE3.out.to hf9 hx9
  clear HE3 hf9 hx9
  clear f0 f1 f2 f3 f4 f5 f6 f7 f8 f9 f10 f11 f12 f13 ff fs
  obtain ⟨g0, g1, g2, g3, g4, g5, g6, g7, g8, g9, g10, g11, g12, g13, gf, gs⟩ := framef HE9.out.zb
  go_wp2
  refine bodyPost_ret (v := .agg #[.int .i64 (handF ⟨c, 5, cur, prev, slot, nn, keys, false, ee⟩ (-1) 0).c.kind, .int .i64 (handF ⟨c, 5, cur, prev, slot, nn, keys, false, ee⟩ (-1) 0).c.a, .int .i64 (handF ⟨c, 5, cur, prev, slot, nn, keys, false, ee⟩ (-1) 0).c.b, .int .i64 (handF ⟨c, 5, cur, prev, slot, nn, keys, false, ee⟩ (-1) 0).c.time, .int .i64 (handF ⟨c, 5, cur, prev, slot, nn, keys, false, ee⟩ (-1) 0).c.bk, .int .i64 (handF ⟨c, 5, cur, prev, slot, nn, keys, false, ee⟩ (-1) 0).c.slot, .int .i64 (handF ⟨c, 5, cur, prev, slot, nn, keys, false, ee⟩ (-1) 0).pl, .int .i64 (handF ⟨c, 5, cur, prev, slot, nn, keys, false, ee⟩ (-1) 0).cur, .int .i64 (handF ⟨c, 5, cur, prev, slot, nn, keys, false, ee⟩ (-1) 0).prev, .int .i64 (handF ⟨c, 5, cur, prev, slot, nn, keys, false, ee⟩ (-1) 0).slot, .int .i64 (handF ⟨c, 5, cur, prev, slot, nn, keys, false, ee⟩ (-1) 0).n, .slice aK (handF ⟨c, 5, cur, prev, slot, nn, keys, false, ee⟩ (-1) 0).keys.length cK, .bool (handF ⟨c, 5, cur, prev, slot, nn, keys, false, ee⟩ (-1) 0).done, .int .i64 (handF ⟨c, 5, cur, prev, slot, nn, keys, false, ee⟩ (-1) 0).e]) (by simp [results, Try.results37, go_sem, handF, toF, g0, g1, g2, g3, g4, g5, g6, g7, g8, g9, g10, g11, g12, g13]) rfl ⟨⟨aK, cK, rfl, HR.out.fine HE9.out.end14.2 HZ.out, (fun ad h => .inl h), fun _ => ⟨rfl, rfl⟩⟩, HE9.out.end14⟩

set_option maxHeartbeats 3200000 in
theorem rstep6 (M : Mm) (c : Cl) (cur prev slot nn ee : Int) (keys : List (Int × Int)) (B lo : Nat) (aS aH aF aL : Option Addr) (cS cH cF cL : Nat) (aK : Option Addr) (cK : Nat) (w : World) (b : Nat)
    (m : Mine w B lo aS aH aF aL cS cH cF cL M) (HR : Hid (KRow w aK cK keys)) (HZ : Hid (∀ ad, aK = some ad → ¬ Foot B aS aH aF aL ad.block)) (M' : Mm) (hs : 0 ≤ slot) (HPt : Hid (∀ (W : World) (Z : Nat → Prop), Has W B lo Z M → Calls Try.prog 102 #[.pointer (some ⟨B, 0, none⟩), .int .i64 slot] W fun e w' => e = .returned (.tuple #[]) ∧ Has w' B lo (Up W Z) M' ∧ Fine W w' Z))
    (HBk : Hid (∀ W : World, Calls Try.prog 32 #[.agg #[.slice aS M.slots.length cS, .slice aH M.heads.length cH, .slice aF M.free.length cF, .slice aL M.locks.length cL, .int .i64 M.now], .agg #[.int .i64 c.kind, .int .i64 c.a, .int .i64 c.b, .int .i64 c.time, .int .i64 c.bk, .int .i64 c.slot]] W fun e w' => e = .returned (.int .i64 (b : Int)) ∧ Below W.heap.size W w')) :
    Calls Try.prog 37 #[.pointer (some ⟨B, 0, none⟩), .agg #[.int .i64 c.kind, .int .i64 c.a, .int .i64 c.b, .int .i64 c.time, .int .i64 c.bk, .int .i64 c.slot, .int .i64 6, .int .i64 cur, .int .i64 prev, .int .i64 slot, .int .i64 nn, .slice aK keys.length cK, .bool false, .int .i64 ee]] w fun e w' => Ret w w' e (endF ⟨c, 6, cur, prev, -1, nn, keys, false, ee⟩ 5) aK cK ∧ Has w' B lo (Up w (Foot B aS aH aF aL)) (M') ∧ Fine w w' (Foot B aS aH aF aL) := by
  obtain ⟨of, hof⟩ : ∃ o : Obj, o = .cells #[.int .i64 c.kind, .int .i64 c.a, .int .i64 c.b, .int .i64 c.time, .int .i64 c.bk, .int .i64 c.slot, .int .i64 6, .int .i64 cur, .int .i64 prev, .int .i64 slot, .int .i64 nn, .slice aK keys.length cK, .bool false, .int .i64 ee] 51 := ⟨_, rfl⟩
  obtain ⟨oz, hoz⟩ : ∃ o : Obj, o = zeroFr := ⟨_, rfl⟩
  have HE : Hid (Lk w ((w.alloc of).alloc oz) B lo aS aH aF aL cS cH cF cL M ⟨c, 6, cur, prev, slot, nn, keys, false, ee⟩ aK cK) := Lk.first m ⟨c, 6, cur, prev, slot, nn, keys, false, ee⟩ aK cK hof hoz
  obtain ⟨f0, f1, f2, f3, f4, f5, f6, f7, f8, f9, f10, f11, f12, f13, ff, fs⟩ := framef (show ((w.alloc of).alloc oz).heap[w.heap.size]? = some (.cells #[.int .i64 c.kind, .int .i64 c.a, .int .i64 c.b, .int .i64 c.time, .int .i64 c.bk, .int .i64 c.slot, .int .i64 6, .int .i64 cur, .int .i64 prev, .int .i64 slot, .int .i64 nn, .slice aK keys.length cK, .bool false, .int .i64 ee] 51 (0, 0)) from HE.out.fb)
  obtain ⟨q0, q1, q2, q3, q4, -, -, -, -, -, qs⟩ := boxf HE.out.m.box
  unfold zeroFr at hoz
  clear m
  go_enter Try.func37, Try.ntmps37
  go_wp2_with fail
  rw [← hof, ← hoz]
  generalize (w.alloc of).alloc oz = W0 at *
  subst hof hoz
  have cB : ∀ (d : Nat) (os : Array Obj), Calls Try.prog 32 #[.agg #[.slice aS M.slots.length cS, .slice aH M.heads.length cH, .slice aF M.free.length cF, .slice aL M.locks.length cL, .int .i64 M.now], .agg #[.int .i64 c.kind, .int .i64 c.a, .int .i64 c.b, .int .i64 c.time, .int .i64 c.bk, .int .i64 c.slot]] (grow (redrawn W0 d) os) fun e w'' => e = .returned (.int .i64 (b : Int)) ∧ ∃ p : Regrown, w'' = grow (redrawn W0 p.d) p.os := fun d os => Calls.regrown_of (HBk.out _)
  have Q0 := cell_regrown q0; have Q1 := cell_regrown q1; have Q2 := cell_regrown q2; have Q3 := cell_regrown q3; have Q4 := cell_regrown q4
  have F0 := cell_regrown f0; have F1 := cell_regrown f1; have F2 := cell_regrown f2; have F3 := cell_regrown f3; have F4 := cell_regrown f4; have F5 := cell_regrown f5
  clear q0 q1 q2 q3 q4 qs f0 f1 f2 f3 f4 f5 f6 f7 f8 f9 f10 f11 f12 f13 ff fs
  refine wp_region_quiet_below (by kernel_rfl) (by kernel_rfl) ?_
  repeat (quiet_step (first | exact cB _ _))
  refine wpQuiet_nil ?_
  intro _ hw'
  obtain ⟨⟨dq, osq⟩, hw''⟩ := hw'
  subst hw''
  have HE1 : Hid (Lk w (grow (redrawn W0 dq) osq) B lo aS aH aF aL cS cH cF cL M ⟨c, 6, cur, prev, slot, nn, keys, false, ee⟩ aK cK) := HE.out.below (below_regrown W0 dq osq)
  generalize grow (redrawn W0 dq) osq = w1 at *
  clear cB Q0 Q1 Q2 Q3 Q4 F0 F1 F2 F3 F4 F5 HE HBk
  obtain ⟨f0, f1, f2, f3, f4, f5, f6, f7, f8, f9, f10, f11, f12, f13, ff, fs⟩ := framef (show w1.heap[w.heap.size]? = some (.cells #[.int .i64 c.kind, .int .i64 c.a, .int .i64 c.b, .int .i64 c.time, .int .i64 c.bk, .int .i64 c.slot, .int .i64 6, .int .i64 cur, .int .i64 prev, .int .i64 slot, .int .i64 nn, .slice aK keys.length cK, .bool false, .int .i64 ee] 51 (0, 0)) from HE1.out.fb)
  obtain ⟨q0, q1, q2, q3, q4, -, -, -, -, -, qs⟩ := boxf HE1.out.m.box
  go_wp2_with fail
  refine (HPt.out w1 (Foot B aS aH aF aL) ⟨_, _, _, _, _, _, _, _, HE1.out.m, fun _ h => h⟩).mono ?_
  rintro e w2 ⟨rfl, hh2, hf2⟩
  have HE2 : Hid (Lk2 w w2 (Foot B aS aH aF aL) B lo M' ⟨c, 6, cur, prev, slot, nn, keys, false, ee⟩ aK cK) := HE1.out.after hh2 hf2
  clear HE1 hh2 hf2 q0 q1 q2 q3 q4 qs f0 f1 f2 f3 f4 f5 f6 f7 f8 f9 f10 f11 f12 f13 ff fs
  obtain ⟨f0, f1, f2, f3, f4, f5, f6, f7, f8, f9, f10, f11, f12, f13, ff, fs⟩ := framef (show w2.heap[w.heap.size]? = some (.cells #[.int .i64 c.kind, .int .i64 c.a, .int .i64 c.b, .int .i64 c.time, .int .i64 c.bk, .int .i64 c.slot, .int .i64 6, .int .i64 cur, .int .i64 prev, .int .i64 slot, .int .i64 nn, .slice aK keys.length cK, .bool false, .int .i64 ee] 51 (0, 0)) from HE2.out.fb)
  go_wp2_with fail
  have HE3 : Hid (Lk2 w (w2.setCell ⟨w.heap.size, 9, none⟩ (.int .i64 (-1))) (Foot B aS aH aF aL) B lo M' ⟨c, 6, cur, prev, -1, nn, keys, false, ee⟩ aK cK) := HE2.out.store 9 (.int .i64 (-1)) ⟨c, 6, cur, prev, -1, nn, keys, false, ee⟩ rfl
  clear HE2
  refine (over_any ⟨c, 6, cur, prev, -1, nn, keys, false, ee⟩ 5 aK cK _).mono ?_
  rintro e w9 ⟨rfl, hb9⟩
  have HE9 : Hid (Lk2 w w9 (Foot B aS aH aF aL) B lo M' ⟨c, 6, cur, prev, -1, nn, keys, false, ee⟩ aK cK) := HE3.out.below hb9
  clear HE3 hb9
  clear f0 f1 f2 f3 f4 f5 f6 f7 f8 f9 f10 f11 f12 f13 ff fs
  obtain ⟨g0, g1, g2, g3, g4, g5, g6, g7, g8, g9, g10, g11, g12, g13, gf, gs⟩ := framef HE9.out.zb
  go_wp2
  refine bodyPost_ret (v := .agg #[.int .i64 (endF ⟨c, 6, cur, prev, -1, nn, keys, false, ee⟩ 5).c.kind, .int .i64 (endF ⟨c, 6, cur, prev, -1, nn, keys, false, ee⟩ 5).c.a, .int .i64 (endF ⟨c, 6, cur, prev, -1, nn, keys, false, ee⟩ 5).c.b, .int .i64 (endF ⟨c, 6, cur, prev, -1, nn, keys, false, ee⟩ 5).c.time, .int .i64 (endF ⟨c, 6, cur, prev, -1, nn, keys, false, ee⟩ 5).c.bk, .int .i64 (endF ⟨c, 6, cur, prev, -1, nn, keys, false, ee⟩ 5).c.slot, .int .i64 (endF ⟨c, 6, cur, prev, -1, nn, keys, false, ee⟩ 5).pl, .int .i64 (endF ⟨c, 6, cur, prev, -1, nn, keys, false, ee⟩ 5).cur, .int .i64 (endF ⟨c, 6, cur, prev, -1, nn, keys, false, ee⟩ 5).prev, .int .i64 (endF ⟨c, 6, cur, prev, -1, nn, keys, false, ee⟩ 5).slot, .int .i64 (endF ⟨c, 6, cur, prev, -1, nn, keys, false, ee⟩ 5).n, .slice aK (endF ⟨c, 6, cur, prev, -1, nn, keys, false, ee⟩ 5).keys.length cK, .bool (endF ⟨c, 6, cur, prev, -1, nn, keys, false, ee⟩ 5).done, .int .i64 (endF ⟨c, 6, cur, prev, -1, nn, keys, false, ee⟩ 5).e]) (by simp [results, Try.results37, go_sem, endF, g0, g1, g2, g3, g4, g5, g6, g7, g8, g9, g10, g11, g12, g13]) rfl ⟨⟨aK, cK, rfl, HR.out.fine HE9.out.end14.2 HZ.out, (fun ad h => .inl h), fun _ => ⟨rfl, rfl⟩⟩, HE9.out.end14⟩

set_option maxHeartbeats 3200000 in
theorem rstep4no (M : Mm) (c : Cl) (cur prev slot nn ee : Int) (keys : List (Int × Int)) (B lo : Nat) (aS aH aF aL : Option Addr) (cS cH cF cL : Nat) (aK : Option Addr) (cK : Nat) (w : World) (b : Nat)
    (m : Mine w B lo aS aH aF aL cS cH cF cL M) (HR : Hid (KRow w aK cK keys)) (HZ : Hid (∀ ad, aK = some ad → ¬ Foot B aS aH aF aL ad.block)) (hs : slot < 0)
    (HBk : Hid (∀ W : World, Calls Try.prog 32 #[.agg #[.slice aS M.slots.length cS, .slice aH M.heads.length cH, .slice aF M.free.length cF, .slice aL M.locks.length cL, .int .i64 M.now], .agg #[.int .i64 c.kind, .int .i64 c.a, .int .i64 c.b, .int .i64 c.time, .int .i64 c.bk, .int .i64 c.slot]] W fun e w' => e = .returned (.int .i64 (b : Int)) ∧ Below W.heap.size W w')) :
    Calls Try.prog 37 #[.pointer (some ⟨B, 0, none⟩), .agg #[.int .i64 c.kind, .int .i64 c.a, .int .i64 c.b, .int .i64 c.time, .int .i64 c.bk, .int .i64 c.slot, .int .i64 4, .int .i64 cur, .int .i64 prev, .int .i64 slot, .int .i64 nn, .slice aK keys.length cK, .bool false, .int .i64 ee]] w fun e w' => Ret w w' e (toF ⟨c, 4, cur, prev, slot, nn, keys, false, ee⟩ 0) aK cK ∧ Has w' B lo (Up w (Foot B aS aH aF aL)) (M) ∧ Fine w w' (Foot B aS aH aF aL) := by
  have hs2 : ¬ 0 ≤ slot := by omega
  obtain ⟨of, hof⟩ : ∃ o : Obj, o = .cells #[.int .i64 c.kind, .int .i64 c.a, .int .i64 c.b, .int .i64 c.time, .int .i64 c.bk, .int .i64 c.slot, .int .i64 4, .int .i64 cur, .int .i64 prev, .int .i64 slot, .int .i64 nn, .slice aK keys.length cK, .bool false, .int .i64 ee] 51 := ⟨_, rfl⟩
  obtain ⟨oz, hoz⟩ : ∃ o : Obj, o = zeroFr := ⟨_, rfl⟩
  have HE : Hid (Lk w ((w.alloc of).alloc oz) B lo aS aH aF aL cS cH cF cL M ⟨c, 4, cur, prev, slot, nn, keys, false, ee⟩ aK cK) := Lk.first m ⟨c, 4, cur, prev, slot, nn, keys, false, ee⟩ aK cK hof hoz
  obtain ⟨f0, f1, f2, f3, f4, f5, f6, f7, f8, f9, f10, f11, f12, f13, ff, fs⟩ := framef (show ((w.alloc of).alloc oz).heap[w.heap.size]? = some (.cells #[.int .i64 c.kind, .int .i64 c.a, .int .i64 c.b, .int .i64 c.time, .int .i64 c.bk, .int .i64 c.slot, .int .i64 4, .int .i64 cur, .int .i64 prev, .int .i64 slot, .int .i64 nn, .slice aK keys.length cK, .bool false, .int .i64 ee] 51 (0, 0)) from HE.out.fb)
  obtain ⟨q0, q1, q2, q3, q4, -, -, -, -, -, qs⟩ := boxf HE.out.m.box
  unfold zeroFr at hoz
  clear m
  go_enter Try.func37, Try.ntmps37
  go_wp2_with fail
  rw [← hof, ← hoz]
  generalize (w.alloc of).alloc oz = W0 at *
  subst hof hoz
  have cB : ∀ (d : Nat) (os : Array Obj), Calls Try.prog 32 #[.agg #[.slice aS M.slots.length cS, .slice aH M.heads.length cH, .slice aF M.free.length cF, .slice aL M.locks.length cL, .int .i64 M.now], .agg #[.int .i64 c.kind, .int .i64 c.a, .int .i64 c.b, .int .i64 c.time, .int .i64 c.bk, .int .i64 c.slot]] (grow (redrawn W0 d) os) fun e w'' => e = .returned (.int .i64 (b : Int)) ∧ ∃ p : Regrown, w'' = grow (redrawn W0 p.d) p.os := fun d os => Calls.regrown_of (HBk.out _)
  have Q0 := cell_regrown q0; have Q1 := cell_regrown q1; have Q2 := cell_regrown q2; have Q3 := cell_regrown q3; have Q4 := cell_regrown q4
  have F0 := cell_regrown f0; have F1 := cell_regrown f1; have F2 := cell_regrown f2; have F3 := cell_regrown f3; have F4 := cell_regrown f4; have F5 := cell_regrown f5
  clear q0 q1 q2 q3 q4 qs f0 f1 f2 f3 f4 f5 f6 f7 f8 f9 f10 f11 f12 f13 ff fs
  refine wp_region_quiet_below (by kernel_rfl) (by kernel_rfl) ?_
  repeat (quiet_step (first | exact cB _ _))
  refine wpQuiet_nil ?_
  intro _ hw'
  obtain ⟨⟨dq, osq⟩, hw''⟩ := hw'
  subst hw''
  have HE1 : Hid (Lk w (grow (redrawn W0 dq) osq) B lo aS aH aF aL cS cH cF cL M ⟨c, 4, cur, prev, slot, nn, keys, false, ee⟩ aK cK) := HE.out.below (below_regrown W0 dq osq)
  generalize grow (redrawn W0 dq) osq = w1 at *
  clear cB Q0 Q1 Q2 Q3 Q4 F0 F1 F2 F3 F4 F5 HE HBk
  obtain ⟨f0, f1, f2, f3, f4, f5, f6, f7, f8, f9, f10, f11, f12, f13, ff, fs⟩ := framef (show w1.heap[w.heap.size]? = some (.cells #[.int .i64 c.kind, .int .i64 c.a, .int .i64 c.b, .int .i64 c.time, .int .i64 c.bk, .int .i64 c.slot, .int .i64 4, .int .i64 cur, .int .i64 prev, .int .i64 slot, .int .i64 nn, .slice aK keys.length cK, .bool false, .int .i64 ee] 51 (0, 0)) from HE1.out.fb)
  obtain ⟨q0, q1, q2, q3, q4, -, -, -, -, -, qs⟩ := boxf HE1.out.m.box
  go_wp2_with fail
  have HE2 : Hid (Lk2 w _ (Foot B aS aH aF aL) B lo M ⟨c, 4, cur, prev, slot, nn, keys, false, ee⟩ aK cK) := HE1.out.bare
  clear HE1
  refine (rto_any ⟨c, 4, cur, prev, slot, nn, keys, false, ee⟩ 0 w.heap.size aK cK _ HE2.out.fb).mono ?_
  rintro e w9 ⟨rfl, hf9, hx9⟩
  have HE9 : Hid (Lk2 w w9 (Foot B aS aH aF aL) B lo M (toF ⟨c, 4, cur, prev, slot, nn, keys, false, ee⟩ 0) aK cK) := HE2.out.to hf9 hx9
  clear HE2 hf9 hx9
  clear q0 q1 q2 q3 q4 qs f0 f1 f2 f3 f4 f5 f6 f7 f8 f9 f10 f11 f12 f13 ff fs
  obtain ⟨g0, g1, g2, g3, g4, g5, g6, g7, g8, g9, g10, g11, g12, g13, gf, gs⟩ := framef HE9.out.zb
  go_wp2
  refine bodyPost_ret (v := .agg #[.int .i64 (toF ⟨c, 4, cur, prev, slot, nn, keys, false, ee⟩ 0).c.kind, .int .i64 (toF ⟨c, 4, cur, prev, slot, nn, keys, false, ee⟩ 0).c.a, .int .i64 (toF ⟨c, 4, cur, prev, slot, nn, keys, false, ee⟩ 0).c.b, .int .i64 (toF ⟨c, 4, cur, prev, slot, nn, keys, false, ee⟩ 0).c.time, .int .i64 (toF ⟨c, 4, cur, prev, slot, nn, keys, false, ee⟩ 0).c.bk, .int .i64 (toF ⟨c, 4, cur, prev, slot, nn, keys, false, ee⟩ 0).c.slot, .int .i64 (toF ⟨c, 4, cur, prev, slot, nn, keys, false, ee⟩ 0).pl, .int .i64 (toF ⟨c, 4, cur, prev, slot, nn, keys, false, ee⟩ 0).cur, .int .i64 (toF ⟨c, 4, cur, prev, slot, nn, keys, false, ee⟩ 0).prev, .int .i64 (toF ⟨c, 4, cur, prev, slot, nn, keys, false, ee⟩ 0).slot, .int .i64 (toF ⟨c, 4, cur, prev, slot, nn, keys, false, ee⟩ 0).n, .slice aK (toF ⟨c, 4, cur, prev, slot, nn, keys, false, ee⟩ 0).keys.length cK, .bool (toF ⟨c, 4, cur, prev, slot, nn, keys, false, ee⟩ 0).done, .int .i64 (toF ⟨c, 4, cur, prev, slot, nn, keys, false, ee⟩ 0).e]) (by simp [results, Try.results37, go_sem, toF, g0, g1, g2, g3, g4, g5, g6, g7, g8, g9, g10, g11, g12, g13]) rfl ⟨⟨aK, cK, rfl, HR.out.fine HE9.out.end14.2 HZ.out, (fun ad h => .inl h), fun _ => ⟨rfl, rfl⟩⟩, HE9.out.end14⟩

set_option maxHeartbeats 3200000 in
theorem rstep5no (M : Mm) (c : Cl) (cur prev slot nn ee : Int) (keys : List (Int × Int)) (B lo : Nat) (aS aH aF aL : Option Addr) (cS cH cF cL : Nat) (aK : Option Addr) (cK : Nat) (w : World) (b : Nat)
    (m : Mine w B lo aS aH aF aL cS cH cF cL M) (HR : Hid (KRow w aK cK keys)) (HZ : Hid (∀ ad, aK = some ad → ¬ Foot B aS aH aF aL ad.block)) (hs : slot < 0)
    (HBk : Hid (∀ W : World, Calls Try.prog 32 #[.agg #[.slice aS M.slots.length cS, .slice aH M.heads.length cH, .slice aF M.free.length cF, .slice aL M.locks.length cL, .int .i64 M.now], .agg #[.int .i64 c.kind, .int .i64 c.a, .int .i64 c.b, .int .i64 c.time, .int .i64 c.bk, .int .i64 c.slot]] W fun e w' => e = .returned (.int .i64 (b : Int)) ∧ Below W.heap.size W w')) :
    Calls Try.prog 37 #[.pointer (some ⟨B, 0, none⟩), .agg #[.int .i64 c.kind, .int .i64 c.a, .int .i64 c.b, .int .i64 c.time, .int .i64 c.bk, .int .i64 c.slot, .int .i64 5, .int .i64 cur, .int .i64 prev, .int .i64 slot, .int .i64 nn, .slice aK keys.length cK, .bool false, .int .i64 ee]] w fun e w' => Ret w w' e (toF ⟨c, 5, cur, prev, slot, nn, keys, false, ee⟩ 0) aK cK ∧ Has w' B lo (Up w (Foot B aS aH aF aL)) (M) ∧ Fine w w' (Foot B aS aH aF aL) := by
  have hs2 : ¬ 0 ≤ slot := by omega
  obtain ⟨of, hof⟩ : ∃ o : Obj, o = .cells #[.int .i64 c.kind, .int .i64 c.a, .int .i64 c.b, .int .i64 c.time, .int .i64 c.bk, .int .i64 c.slot, .int .i64 5, .int .i64 cur, .int .i64 prev, .int .i64 slot, .int .i64 nn, .slice aK keys.length cK, .bool false, .int .i64 ee] 51 := ⟨_, rfl⟩
  obtain ⟨oz, hoz⟩ : ∃ o : Obj, o = zeroFr := ⟨_, rfl⟩
  have HE : Hid (Lk w ((w.alloc of).alloc oz) B lo aS aH aF aL cS cH cF cL M ⟨c, 5, cur, prev, slot, nn, keys, false, ee⟩ aK cK) := Lk.first m ⟨c, 5, cur, prev, slot, nn, keys, false, ee⟩ aK cK hof hoz
  obtain ⟨f0, f1, f2, f3, f4, f5, f6, f7, f8, f9, f10, f11, f12, f13, ff, fs⟩ := framef (show ((w.alloc of).alloc oz).heap[w.heap.size]? = some (.cells #[.int .i64 c.kind, .int .i64 c.a, .int .i64 c.b, .int .i64 c.time, .int .i64 c.bk, .int .i64 c.slot, .int .i64 5, .int .i64 cur, .int .i64 prev, .int .i64 slot, .int .i64 nn, .slice aK keys.length cK, .bool false, .int .i64 ee] 51 (0, 0)) from HE.out.fb)
  obtain ⟨q0, q1, q2, q3, q4, -, -, -, -, -, qs⟩ := boxf HE.out.m.box
  unfold zeroFr at hoz
  clear m
  go_enter Try.func37, Try.ntmps37
  go_wp2_with fail
  rw [← hof, ← hoz]
  generalize (w.alloc of).alloc oz = W0 at *
  subst hof hoz
  have cB : ∀ (d : Nat) (os : Array Obj), Calls Try.prog 32 #[.agg #[.slice aS M.slots.length cS, .slice aH M.heads.length cH, .slice aF M.free.length cF, .slice aL M.locks.length cL, .int .i64 M.now], .agg #[.int .i64 c.kind, .int .i64 c.a, .int .i64 c.b, .int .i64 c.time, .int .i64 c.bk, .int .i64 c.slot]] (grow (redrawn W0 d) os) fun e w'' => e = .returned (.int .i64 (b : Int)) ∧ ∃ p : Regrown, w'' = grow (redrawn W0 p.d) p.os := fun d os => Calls.regrown_of (HBk.out _)
  have Q0 := cell_regrown q0; have Q1 := cell_regrown q1; have Q2 := cell_regrown q2; have Q3 := cell_regrown q3; have Q4 := cell_regrown q4
  have F0 := cell_regrown f0; have F1 := cell_regrown f1; have F2 := cell_regrown f2; have F3 := cell_regrown f3; have F4 := cell_regrown f4; have F5 := cell_regrown f5
  clear q0 q1 q2 q3 q4 qs f0 f1 f2 f3 f4 f5 f6 f7 f8 f9 f10 f11 f12 f13 ff fs
  refine wp_region_quiet_below (by kernel_rfl) (by kernel_rfl) ?_
  repeat (quiet_step (first | exact cB _ _))
  refine wpQuiet_nil ?_
  intro _ hw'
  obtain ⟨⟨dq, osq⟩, hw''⟩ := hw'
  subst hw''
  have HE1 : Hid (Lk w (grow (redrawn W0 dq) osq) B lo aS aH aF aL cS cH cF cL M ⟨c, 5, cur, prev, slot, nn, keys, false, ee⟩ aK cK) := HE.out.below (below_regrown W0 dq osq)
  generalize grow (redrawn W0 dq) osq = w1 at *
  clear cB Q0 Q1 Q2 Q3 Q4 F0 F1 F2 F3 F4 F5 HE HBk
  obtain ⟨f0, f1, f2, f3, f4, f5, f6, f7, f8, f9, f10, f11, f12, f13, ff, fs⟩ := framef (show w1.heap[w.heap.size]? = some (.cells #[.int .i64 c.kind, .int .i64 c.a, .int .i64 c.b, .int .i64 c.time, .int .i64 c.bk, .int .i64 c.slot, .int .i64 5, .int .i64 cur, .int .i64 prev, .int .i64 slot, .int .i64 nn, .slice aK keys.length cK, .bool false, .int .i64 ee] 51 (0, 0)) from HE1.out.fb)
  obtain ⟨q0, q1, q2, q3, q4, -, -, -, -, -, qs⟩ := boxf HE1.out.m.box
  go_wp2_with fail
  have HE2 : Hid (Lk2 w _ (Foot B aS aH aF aL) B lo M ⟨c, 5, cur, prev, slot, nn, keys, false, ee⟩ aK cK) := HE1.out.bare
  clear HE1
  refine (rto_any ⟨c, 5, cur, prev, slot, nn, keys, false, ee⟩ 0 w.heap.size aK cK _ HE2.out.fb).mono ?_
  rintro e w9 ⟨rfl, hf9, hx9⟩
  have HE9 : Hid (Lk2 w w9 (Foot B aS aH aF aL) B lo M (toF ⟨c, 5, cur, prev, slot, nn, keys, false, ee⟩ 0) aK cK) := HE2.out.to hf9 hx9
  clear HE2 hf9 hx9
  clear q0 q1 q2 q3 q4 qs f0 f1 f2 f3 f4 f5 f6 f7 f8 f9 f10 f11 f12 f13 ff fs
  obtain ⟨g0, g1, g2, g3, g4, g5, g6, g7, g8, g9, g10, g11, g12, g13, gf, gs⟩ := framef HE9.out.zb
  go_wp2
  refine bodyPost_ret (v := .agg #[.int .i64 (toF ⟨c, 5, cur, prev, slot, nn, keys, false, ee⟩ 0).c.kind, .int .i64 (toF ⟨c, 5, cur, prev, slot, nn, keys, false, ee⟩ 0).c.a, .int .i64 (toF ⟨c, 5, cur, prev, slot, nn, keys, false, ee⟩ 0).c.b, .int .i64 (toF ⟨c, 5, cur, prev, slot, nn, keys, false, ee⟩ 0).c.time, .int .i64 (toF ⟨c, 5, cur, prev, slot, nn, keys, false, ee⟩ 0).c.bk, .int .i64 (toF ⟨c, 5, cur, prev, slot, nn, keys, false, ee⟩ 0).c.slot, .int .i64 (toF ⟨c, 5, cur, prev, slot, nn, keys, false, ee⟩ 0).pl, .int .i64 (toF ⟨c, 5, cur, prev, slot, nn, keys, false, ee⟩ 0).cur, .int .i64 (toF ⟨c, 5, cur, prev, slot, nn, keys, false, ee⟩ 0).prev, .int .i64 (toF ⟨c, 5, cur, prev, slot, nn, keys, false, ee⟩ 0).slot, .int .i64 (toF ⟨c, 5, cur, prev, slot, nn, keys, false, ee⟩ 0).n, .slice aK (toF ⟨c, 5, cur, prev, slot, nn, keys, false, ee⟩ 0).keys.length cK, .bool (toF ⟨c, 5, cur, prev, slot, nn, keys, false, ee⟩ 0).done, .int .i64 (toF ⟨c, 5, cur, prev, slot, nn, keys, false, ee⟩ 0).e]) (by simp [results, Try.results37, go_sem, toF, g0, g1, g2, g3, g4, g5, g6, g7, g8, g9, g10, g11, g12, g13]) rfl ⟨⟨aK, cK, rfl, HR.out.fine HE9.out.end14.2 HZ.out, (fun ad h => .inl h), fun _ => ⟨rfl, rfl⟩⟩, HE9.out.end14⟩

set_option maxHeartbeats 3200000 in
theorem rstep6no (M : Mm) (c : Cl) (cur prev slot nn ee : Int) (keys : List (Int × Int)) (B lo : Nat) (aS aH aF aL : Option Addr) (cS cH cF cL : Nat) (aK : Option Addr) (cK : Nat) (w : World) (b : Nat)
    (m : Mine w B lo aS aH aF aL cS cH cF cL M) (HR : Hid (KRow w aK cK keys)) (HZ : Hid (∀ ad, aK = some ad → ¬ Foot B aS aH aF aL ad.block)) (hs : slot < 0)
    (HBk : Hid (∀ W : World, Calls Try.prog 32 #[.agg #[.slice aS M.slots.length cS, .slice aH M.heads.length cH, .slice aF M.free.length cF, .slice aL M.locks.length cL, .int .i64 M.now], .agg #[.int .i64 c.kind, .int .i64 c.a, .int .i64 c.b, .int .i64 c.time, .int .i64 c.bk, .int .i64 c.slot]] W fun e w' => e = .returned (.int .i64 (b : Int)) ∧ Below W.heap.size W w')) :
    Calls Try.prog 37 #[.pointer (some ⟨B, 0, none⟩), .agg #[.int .i64 c.kind, .int .i64 c.a, .int .i64 c.b, .int .i64 c.time, .int .i64 c.bk, .int .i64 c.slot, .int .i64 6, .int .i64 cur, .int .i64 prev, .int .i64 slot, .int .i64 nn, .slice aK keys.length cK, .bool false, .int .i64 ee]] w fun e w' => Ret w w' e (toF ⟨c, 6, cur, prev, slot, nn, keys, false, ee⟩ 0) aK cK ∧ Has w' B lo (Up w (Foot B aS aH aF aL)) (M) ∧ Fine w w' (Foot B aS aH aF aL) := by
  have hs2 : ¬ 0 ≤ slot := by omega
  obtain ⟨of, hof⟩ : ∃ o : Obj, o = .cells #[.int .i64 c.kind, .int .i64 c.a, .int .i64 c.b, .int .i64 c.time, .int .i64 c.bk, .int .i64 c.slot, .int .i64 6, .int .i64 cur, .int .i64 prev, .int .i64 slot, .int .i64 nn, .slice aK keys.length cK, .bool false, .int .i64 ee] 51 := ⟨_, rfl⟩
  obtain ⟨oz, hoz⟩ : ∃ o : Obj, o = zeroFr := ⟨_, rfl⟩
  have HE : Hid (Lk w ((w.alloc of).alloc oz) B lo aS aH aF aL cS cH cF cL M ⟨c, 6, cur, prev, slot, nn, keys, false, ee⟩ aK cK) := Lk.first m ⟨c, 6, cur, prev, slot, nn, keys, false, ee⟩ aK cK hof hoz
  obtain ⟨f0, f1, f2, f3, f4, f5, f6, f7, f8, f9, f10, f11, f12, f13, ff, fs⟩ := framef (show ((w.alloc of).alloc oz).heap[w.heap.size]? = some (.cells #[.int .i64 c.kind, .int .i64 c.a, .int .i64 c.b, .int .i64 c.time, .int .i64 c.bk, .int .i64 c.slot, .int .i64 6, .int .i64 cur, .int .i64 prev, .int .i64 slot, .int .i64 nn, .slice aK keys.length cK, .bool false, .int .i64 ee] 51 (0, 0)) from HE.out.fb)
  obtain ⟨q0, q1, q2, q3, q4, -, -, -, -, -, qs⟩ := boxf HE.out.m.box
  unfold zeroFr at hoz
  clear m
  go_enter Try.func37, Try.ntmps37
  go_wp2_with fail
  rw [← hof, ← hoz]
  generalize (w.alloc of).alloc oz = W0 at *
  subst hof hoz
  have cB : ∀ (d : Nat) (os : Array Obj), Calls Try.prog 32 #[.agg #[.slice aS M.slots.length cS, .slice aH M.heads.length cH, .slice aF M.free.length cF, .slice aL M.locks.length cL, .int .i64 M.now], .agg #[.int .i64 c.kind, .int .i64 c.a, .int .i64 c.b, .int .i64 c.time, .int .i64 c.bk, .int .i64 c.slot]] (grow (redrawn W0 d) os) fun e w'' => e = .returned (.int .i64 (b : Int)) ∧ ∃ p : Regrown, w'' = grow (redrawn W0 p.d) p.os := fun d os => Calls.regrown_of (HBk.out _)
  have Q0 := cell_regrown q0; have Q1 := cell_regrown q1; have Q2 := cell_regrown q2; have Q3 := cell_regrown q3; have Q4 := cell_regrown q4
  have F0 := cell_regrown f0; have F1 := cell_regrown f1; have F2 := cell_regrown f2; have F3 := cell_regrown f3; have F4 := cell_regrown f4; have F5 := cell_regrown f5
  clear q0 q1 q2 q3 q4 qs f0 f1 f2 f3 f4 f5 f6 f7 f8 f9 f10 f11 f12 f13 ff fs
  refine wp_region_quiet_below (by kernel_rfl) (by kernel_rfl) ?_
  repeat (quiet_step (first | exact cB _ _))
  refine wpQuiet_nil ?_
  intro _ hw'
  obtain ⟨⟨dq, osq⟩, hw''⟩ := hw'
  subst hw''
  have HE1 : Hid (Lk w (grow (redrawn W0 dq) osq) B lo aS aH aF aL cS cH cF cL M ⟨c, 6, cur, prev, slot, nn, keys, false, ee⟩ aK cK) := HE.out.below (below_regrown W0 dq osq)
  generalize grow (redrawn W0 dq) osq = w1 at *
  clear cB Q0 Q1 Q2 Q3 Q4 F0 F1 F2 F3 F4 F5 HE HBk
  obtain ⟨f0, f1, f2, f3, f4, f5, f6, f7, f8, f9, f10, f11, f12, f13, ff, fs⟩ := framef (show w1.heap[w.heap.size]? = some (.cells #[.int .i64 c.kind, .int .i64 c.a, .int .i64 c.b, .int .i64 c.time, .int .i64 c.bk, .int .i64 c.slot, .int .i64 6, .int .i64 cur, .int .i64 prev, .int .i64 slot, .int .i64 nn, .slice aK keys.length cK, .bool false, .int .i64 ee] 51 (0, 0)) from HE1.out.fb)
  obtain ⟨q0, q1, q2, q3, q4, -, -, -, -, -, qs⟩ := boxf HE1.out.m.box
  go_wp2_with fail
  have HE2 : Hid (Lk2 w _ (Foot B aS aH aF aL) B lo M ⟨c, 6, cur, prev, slot, nn, keys, false, ee⟩ aK cK) := HE1.out.bare
  clear HE1
  refine (rto_any ⟨c, 6, cur, prev, slot, nn, keys, false, ee⟩ 0 w.heap.size aK cK _ HE2.out.fb).mono ?_
  rintro e w9 ⟨rfl, hf9, hx9⟩
  have HE9 : Hid (Lk2 w w9 (Foot B aS aH aF aL) B lo M (toF ⟨c, 6, cur, prev, slot, nn, keys, false, ee⟩ 0) aK cK) := HE2.out.to hf9 hx9
  clear HE2 hf9 hx9
  clear q0 q1 q2 q3 q4 qs f0 f1 f2 f3 f4 f5 f6 f7 f8 f9 f10 f11 f12 f13 ff fs
  obtain ⟨g0, g1, g2, g3, g4, g5, g6, g7, g8, g9, g10, g11, g12, g13, gf, gs⟩ := framef HE9.out.zb
  go_wp2
  refine bodyPost_ret (v := .agg #[.int .i64 (toF ⟨c, 6, cur, prev, slot, nn, keys, false, ee⟩ 0).c.kind, .int .i64 (toF ⟨c, 6, cur, prev, slot, nn, keys, false, ee⟩ 0).c.a, .int .i64 (toF ⟨c, 6, cur, prev, slot, nn, keys, false, ee⟩ 0).c.b, .int .i64 (toF ⟨c, 6, cur, prev, slot, nn, keys, false, ee⟩ 0).c.time, .int .i64 (toF ⟨c, 6, cur, prev, slot, nn, keys, false, ee⟩ 0).c.bk, .int .i64 (toF ⟨c, 6, cur, prev, slot, nn, keys, false, ee⟩ 0).c.slot, .int .i64 (toF ⟨c, 6, cur, prev, slot, nn, keys, false, ee⟩ 0).pl, .int .i64 (toF ⟨c, 6, cur, prev, slot, nn, keys, false, ee⟩ 0).cur, .int .i64 (toF ⟨c, 6, cur, prev, slot, nn, keys, false, ee⟩ 0).prev, .int .i64 (toF ⟨c, 6, cur, prev, slot, nn, keys, false, ee⟩ 0).slot, .int .i64 (toF ⟨c, 6, cur, prev, slot, nn, keys, false, ee⟩ 0).n, .slice aK (toF ⟨c, 6, cur, prev, slot, nn, keys, false, ee⟩ 0).keys.length cK, .bool (toF ⟨c, 6, cur, prev, slot, nn, keys, false, ee⟩ 0).done, .int .i64 (toF ⟨c, 6, cur, prev, slot, nn, keys, false, ee⟩ 0).e]) (by simp [results, Try.results37, go_sem, toF, g0, g1, g2, g3, g4, g5, g6, g7, g8, g9, g10, g11, g12, g13]) rfl ⟨⟨aK, cK, rfl, HR.out.fine HE9.out.end14.2 HZ.out, (fun ad h => .inl h), fun _ => ⟨rfl, rfl⟩⟩, HE9.out.end14⟩



end Go.Proofs.Ytdbilofhcadmoab.mm
