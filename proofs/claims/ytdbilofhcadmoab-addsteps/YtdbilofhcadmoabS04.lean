/- The contract of the document's own AddStep: unlock, any other place. -/
import Derived.Test.YtdbilofhcadmoabC21
import Derived.Test.YtdbilofhcadmoabC22
import Derived.BigRegion
import Derived.Deep.QuietTactic
import Derived.BigQuiet
import Derived.Lib.QuietBelow
import Derived.Test.YtdbilofhcadmoabS01
import Derived.Test.YtdbilofhcadmoabS02
import Derived.Test.YtdbilofhcadmoabS03
import Derived.Test.YtdbilofhcadmoabC35
import Derived.Test.YtdbilofhcadmoabC13
import Derived.Test.YtdbilofhcadmoabC15
import Derived.Test.YtdbilofhcadmoabC19
namespace Go.Proofs.Ytdbilofhcadmoab.mm
open Go.ChangeShapes Go.WideShapes Go.ChangeAt Go.RowKit Go.Joins Go.Deep Go.Sort
set_option maxRecDepth 100000
set_option linter.unusedVariables false

set_option maxHeartbeats 3200000 in
theorem rad7 (t : Int) (M : Mm) (c : Cl) (cur prev slot nn ee : Int) (keys : List (Int × Int)) (B lo : Nat) (aS aH aF aL : Option Addr) (cS cH cF cL : Nat) (aK : Option Addr) (cK : Nat) (w : World) (b : Nat)
    (m : Mine w B lo aS aH aF aL cS cH cF cL M) (HR : Hid (KRow w aK cK keys)) (HZ : Hid (∀ ad, aK = some ad → ¬ Foot B aS aH aF aL ad.block)) (M' : Mm) (HLk : Hid (∀ (W : World) (Z : Nat → Prop), Has W B lo Z M → Calls Try.prog 125 #[.pointer (some ⟨B, 0, none⟩), .int .i64 (b : Int), .int .i64 t] W fun e w' => e = .returned (.tuple #[]) ∧ Has w' B lo (Up W Z) M' ∧ Fine W w' Z))
    (HBk : Hid (∀ W : World, Calls Try.prog 32 #[.agg #[.slice aS M.slots.length cS, .slice aH M.heads.length cH, .slice aF M.free.length cF, .slice aL M.locks.length cL, .int .i64 M.now], .agg #[.int .i64 c.kind, .int .i64 c.a, .int .i64 c.b, .int .i64 c.time, .int .i64 c.bk, .int .i64 c.slot]] W fun e w' => e = .returned (.int .i64 (b : Int)) ∧ Below W.heap.size W w')) :
    Calls Try.prog 52 #[.pointer (some ⟨B, 0, none⟩), .agg #[.int .i64 c.kind, .int .i64 c.a, .int .i64 c.b, .int .i64 c.time, .int .i64 c.bk, .int .i64 c.slot, .int .i64 7, .int .i64 cur, .int .i64 prev, .int .i64 slot, .int .i64 nn, .slice aK keys.length cK, .bool false, .int .i64 ee], .int .i64 t] w fun e w' => Ret w w' e (endF ⟨c, 7, cur, prev, slot, nn, keys, false, ee⟩ ee) aK cK ∧ Has w' B lo (Up w (Foot B aS aH aF aL)) (M') ∧ Fine w w' (Foot B aS aH aF aL) := by
  obtain ⟨of, hof⟩ : ∃ o : Obj, o = .cells #[.int .i64 c.kind, .int .i64 c.a, .int .i64 c.b, .int .i64 c.time, .int .i64 c.bk, .int .i64 c.slot, .int .i64 7, .int .i64 cur, .int .i64 prev, .int .i64 slot, .int .i64 nn, .slice aK keys.length cK, .bool false, .int .i64 ee] 51 := ⟨_, rfl⟩
  obtain ⟨oz, hoz⟩ : ∃ o : Obj, o = zeroFr := ⟨_, rfl⟩
  have HE : Hid (Lk w ((w.alloc of).alloc oz) B lo aS aH aF aL cS cH cF cL M ⟨c, 7, cur, prev, slot, nn, keys, false, ee⟩ aK cK) := Lk.first m ⟨c, 7, cur, prev, slot, nn, keys, false, ee⟩ aK cK hof hoz
  obtain ⟨f0, f1, f2, f3, f4, f5, f6, f7, f8, f9, f10, f11, f12, f13, ff, fs⟩ := framef (show ((w.alloc of).alloc oz).heap[w.heap.size]? = some (.cells #[.int .i64 c.kind, .int .i64 c.a, .int .i64 c.b, .int .i64 c.time, .int .i64 c.bk, .int .i64 c.slot, .int .i64 7, .int .i64 cur, .int .i64 prev, .int .i64 slot, .int .i64 nn, .slice aK keys.length cK, .bool false, .int .i64 ee] 51 (0, 0)) from HE.out.fb)
  obtain ⟨q0, q1, q2, q3, q4, -, -, -, -, -, qs⟩ := boxf HE.out.m.box
  unfold zeroFr at hoz
  clear m
  go_enter Try.func52, Try.ntmps52
  go_wp2_with fail
  rw [← hof, ← hoz]
  generalize (w.alloc of).alloc oz = W0 at *
  subst hof hoz
  have cB : ∀ (d : Nat) (os : Array Obj), Calls Try.prog 32 #[.agg #[.slice aS M.slots.length cS, .slice aH M.heads.length cH, .slice aF M.free.length cF, .slice aL M.locks.length cL, .int .i64 M.now], .agg #[.int .i64 c.kind, .int .i64 c.a, .int .i64 c.b, .int .i64 c.time, .int .i64 c.bk, .int .i64 c.slot]] (grow (redrawn W0 d) os) fun e w'' => e = .returned (.int .i64 (b : Int)) ∧ ∃ p : Regrown, w'' = grow (redrawn W0 p.d) p.os := fun d os => Calls.regrown_of (HBk.out _)
  have Xq0 := cell_regrown q0
  have Xq1 := cell_regrown q1
  have Xq2 := cell_regrown q2
  have Xq3 := cell_regrown q3
  have Xq4 := cell_regrown q4
  have Xf0 := cell_regrown f0
  have Xf1 := cell_regrown f1
  have Xf2 := cell_regrown f2
  have Xf3 := cell_regrown f3
  have Xf4 := cell_regrown f4
  have Xf5 := cell_regrown f5
  clear q0 q1 q2 q3 q4 qs
  clear f0 f1 f2 f3 f4 f5 f6 f7 f8 f9 f10 f11 f12 f13 ff fs
  refine wp_region_quiet_below (by kernel_rfl) (by kernel_rfl) ?_
  repeat (quiet_step (first | exact cB _ _))
  refine wpQuiet_nil ?_
  intro _ hw'
  obtain ⟨⟨dq, osq⟩, hw''⟩ := hw'
  subst hw''
  have HE1 : Hid (Lk w (grow (redrawn W0 dq) osq) B lo aS aH aF aL cS cH cF cL M ⟨c, 7, cur, prev, slot, nn, keys, false, ee⟩ aK cK) := HE.out.below (below_regrown W0 dq osq)
  generalize grow (redrawn W0 dq) osq = w1 at *
  clear Xq0 Xq1 Xq2 Xq3 Xq4 Xf0 Xf1 Xf2 Xf3 Xf4 Xf5 HE
  clear cB HBk
  obtain ⟨f0, f1, f2, f3, f4, f5, f6, f7, f8, f9, f10, f11, f12, f13, ff, fs⟩ := framef (show w1.heap[w.heap.size]? = some (.cells #[.int .i64 c.kind, .int .i64 c.a, .int .i64 c.b, .int .i64 c.time, .int .i64 c.bk, .int .i64 c.slot, .int .i64 7, .int .i64 cur, .int .i64 prev, .int .i64 slot, .int .i64 nn, .slice aK keys.length cK, .bool false, .int .i64 ee] 51 (0, 0)) from HE1.out.fb)
  obtain ⟨q0, q1, q2, q3, q4, -, -, -, -, -, qs⟩ := boxf HE1.out.m.box
  go_wp2_with fail
  refine (HLk.out _ (Foot B aS aH aF aL) (by exact ⟨_, _, _, _, _, _, _, _, HE1.out.m, fun _ h => h⟩)).mono ?_
  rintro e w2 ⟨rfl, hh2, hf2⟩
  have HE2 : Hid (Lk2 w w2 (Foot B aS aH aF aL) B lo M' ⟨c, 7, cur, prev, slot, nn, keys, false, ee⟩ aK cK) := HE1.out.after hh2 hf2
  clear HE1 hh2 hf2
  clear q0 q1 q2 q3 q4 qs
  clear f0 f1 f2 f3 f4 f5 f6 f7 f8 f9 f10 f11 f12 f13 ff fs
  obtain ⟨f0, f1, f2, f3, f4, f5, f6, f7, f8, f9, f10, f11, f12, f13, ff, fs⟩ := framef (show w2.heap[w.heap.size]? = some (.cells #[.int .i64 c.kind, .int .i64 c.a, .int .i64 c.b, .int .i64 c.time, .int .i64 c.bk, .int .i64 c.slot, .int .i64 7, .int .i64 cur, .int .i64 prev, .int .i64 slot, .int .i64 nn, .slice aK keys.length cK, .bool false, .int .i64 ee] 51 (0, 0)) from HE2.out.fb)
  go_wp2_with fail
  refine (over_anyA ⟨c, 7, cur, prev, slot, nn, keys, false, ee⟩ ee aK cK _).mono ?_
  rintro e w9 ⟨rfl, hb9⟩
  have HE9 : Hid (Lk2 w w9 (Foot B aS aH aF aL) B lo M' ⟨c, 7, cur, prev, slot, nn, keys, false, ee⟩ aK cK) := HE2.out.below hb9
  clear HE2 hb9
  clear f0 f1 f2 f3 f4 f5 f6 f7 f8 f9 f10 f11 f12 f13 ff fs
  obtain ⟨g0, g1, g2, g3, g4, g5, g6, g7, g8, g9, g10, g11, g12, g13, gf, gs⟩ := framef HE9.out.zb
  go_wp2
  refine bodyPost_ret (v := .agg #[.int .i64 (endF ⟨c, 7, cur, prev, slot, nn, keys, false, ee⟩ ee).c.kind, .int .i64 (endF ⟨c, 7, cur, prev, slot, nn, keys, false, ee⟩ ee).c.a, .int .i64 (endF ⟨c, 7, cur, prev, slot, nn, keys, false, ee⟩ ee).c.b, .int .i64 (endF ⟨c, 7, cur, prev, slot, nn, keys, false, ee⟩ ee).c.time, .int .i64 (endF ⟨c, 7, cur, prev, slot, nn, keys, false, ee⟩ ee).c.bk, .int .i64 (endF ⟨c, 7, cur, prev, slot, nn, keys, false, ee⟩ ee).c.slot, .int .i64 (endF ⟨c, 7, cur, prev, slot, nn, keys, false, ee⟩ ee).pl, .int .i64 (endF ⟨c, 7, cur, prev, slot, nn, keys, false, ee⟩ ee).cur, .int .i64 (endF ⟨c, 7, cur, prev, slot, nn, keys, false, ee⟩ ee).prev, .int .i64 (endF ⟨c, 7, cur, prev, slot, nn, keys, false, ee⟩ ee).slot, .int .i64 (endF ⟨c, 7, cur, prev, slot, nn, keys, false, ee⟩ ee).n, .slice aK (endF ⟨c, 7, cur, prev, slot, nn, keys, false, ee⟩ ee).keys.length cK, .bool (endF ⟨c, 7, cur, prev, slot, nn, keys, false, ee⟩ ee).done, .int .i64 (endF ⟨c, 7, cur, prev, slot, nn, keys, false, ee⟩ ee).e]) (by simp [results, Try.results52, go_sem, endF, g0, g1, g2, g3, g4, g5, g6, g7, g8, g9, g10, g11, g12, g13]) rfl ⟨⟨aK, cK, rfl, HR.out.fine HE9.out.end14.2 HZ.out, (fun ad h => .inl h), fun _ => ⟨rfl, rfl⟩⟩, HE9.out.end14⟩

set_option maxHeartbeats 3200000 in
theorem rad8 (t : Int) (M : Mm) (c : Cl) (cur prev slot nn ee : Int) (keys : List (Int × Int)) (B lo : Nat) (aS aH aF aL : Option Addr) (cS cH cF cL : Nat) (aK : Option Addr) (cK : Nat) (w : World) (b : Nat)
    (m : Mine w B lo aS aH aF aL cS cH cF cL M) (HR : Hid (KRow w aK cK keys)) (HZ : Hid (∀ ad, aK = some ad → ¬ Foot B aS aH aF aL ad.block)) (pl : Int) (h8 : 8 ≤ pl)
    (HBk : Hid (∀ W : World, Calls Try.prog 32 #[.agg #[.slice aS M.slots.length cS, .slice aH M.heads.length cH, .slice aF M.free.length cF, .slice aL M.locks.length cL, .int .i64 M.now], .agg #[.int .i64 c.kind, .int .i64 c.a, .int .i64 c.b, .int .i64 c.time, .int .i64 c.bk, .int .i64 c.slot]] W fun e w' => e = .returned (.int .i64 (b : Int)) ∧ Below W.heap.size W w')) :
    Calls Try.prog 52 #[.pointer (some ⟨B, 0, none⟩), .agg #[.int .i64 c.kind, .int .i64 c.a, .int .i64 c.b, .int .i64 c.time, .int .i64 c.bk, .int .i64 c.slot, .int .i64 pl, .int .i64 cur, .int .i64 prev, .int .i64 slot, .int .i64 nn, .slice aK keys.length cK, .bool false, .int .i64 ee], .int .i64 t] w fun e w' => Ret w w' e (lateF ⟨c, pl, cur, prev, slot, nn, keys, false, ee⟩) aK cK ∧ Has w' B lo (Up w (Foot B aS aH aF aL)) (M) ∧ Fine w w' (Foot B aS aH aF aL) := by
  have p0 : (pl == 0) = false := by rw [beq_eq_false_iff_ne]; omega
  have p1 : (pl == 1) = false := by rw [beq_eq_false_iff_ne]; omega
  have p2 : (pl == 2) = false := by rw [beq_eq_false_iff_ne]; omega
  have p3 : (pl == 3) = false := by rw [beq_eq_false_iff_ne]; omega
  have p4 : (pl == 4) = false := by rw [beq_eq_false_iff_ne]; omega
  have p5 : (pl == 5) = false := by rw [beq_eq_false_iff_ne]; omega
  have p6 : (pl == 6) = false := by rw [beq_eq_false_iff_ne]; omega
  have p7 : (pl == 7) = false := by rw [beq_eq_false_iff_ne]; omega
  obtain ⟨of, hof⟩ : ∃ o : Obj, o = .cells #[.int .i64 c.kind, .int .i64 c.a, .int .i64 c.b, .int .i64 c.time, .int .i64 c.bk, .int .i64 c.slot, .int .i64 pl, .int .i64 cur, .int .i64 prev, .int .i64 slot, .int .i64 nn, .slice aK keys.length cK, .bool false, .int .i64 ee] 51 := ⟨_, rfl⟩
  obtain ⟨oz, hoz⟩ : ∃ o : Obj, o = zeroFr := ⟨_, rfl⟩
  have HE : Hid (Lk w ((w.alloc of).alloc oz) B lo aS aH aF aL cS cH cF cL M ⟨c, pl, cur, prev, slot, nn, keys, false, ee⟩ aK cK) := Lk.first m ⟨c, pl, cur, prev, slot, nn, keys, false, ee⟩ aK cK hof hoz
  obtain ⟨f0, f1, f2, f3, f4, f5, f6, f7, f8, f9, f10, f11, f12, f13, ff, fs⟩ := framef (show ((w.alloc of).alloc oz).heap[w.heap.size]? = some (.cells #[.int .i64 c.kind, .int .i64 c.a, .int .i64 c.b, .int .i64 c.time, .int .i64 c.bk, .int .i64 c.slot, .int .i64 pl, .int .i64 cur, .int .i64 prev, .int .i64 slot, .int .i64 nn, .slice aK keys.length cK, .bool false, .int .i64 ee] 51 (0, 0)) from HE.out.fb)
  obtain ⟨q0, q1, q2, q3, q4, -, -, -, -, -, qs⟩ := boxf HE.out.m.box
  unfold zeroFr at hoz
  clear m
  go_enter Try.func52, Try.ntmps52
  go_wp2_with fail
  rw [← hof, ← hoz]
  generalize (w.alloc of).alloc oz = W0 at *
  subst hof hoz
  have cB : ∀ (d : Nat) (os : Array Obj), Calls Try.prog 32 #[.agg #[.slice aS M.slots.length cS, .slice aH M.heads.length cH, .slice aF M.free.length cF, .slice aL M.locks.length cL, .int .i64 M.now], .agg #[.int .i64 c.kind, .int .i64 c.a, .int .i64 c.b, .int .i64 c.time, .int .i64 c.bk, .int .i64 c.slot]] (grow (redrawn W0 d) os) fun e w'' => e = .returned (.int .i64 (b : Int)) ∧ ∃ p : Regrown, w'' = grow (redrawn W0 p.d) p.os := fun d os => Calls.regrown_of (HBk.out _)
  have Xq0 := cell_regrown q0
  have Xq1 := cell_regrown q1
  have Xq2 := cell_regrown q2
  have Xq3 := cell_regrown q3
  have Xq4 := cell_regrown q4
  have Xf0 := cell_regrown f0
  have Xf1 := cell_regrown f1
  have Xf2 := cell_regrown f2
  have Xf3 := cell_regrown f3
  have Xf4 := cell_regrown f4
  have Xf5 := cell_regrown f5
  clear q0 q1 q2 q3 q4 qs
  clear f0 f1 f2 f3 f4 f5 f6 f7 f8 f9 f10 f11 f12 f13 ff fs
  refine wp_region_quiet_below (by kernel_rfl) (by kernel_rfl) ?_
  repeat (quiet_step (first | exact cB _ _))
  refine wpQuiet_nil ?_
  intro _ hw'
  obtain ⟨⟨dq, osq⟩, hw''⟩ := hw'
  subst hw''
  have HE1 : Hid (Lk w (grow (redrawn W0 dq) osq) B lo aS aH aF aL cS cH cF cL M ⟨c, pl, cur, prev, slot, nn, keys, false, ee⟩ aK cK) := HE.out.below (below_regrown W0 dq osq)
  generalize grow (redrawn W0 dq) osq = w1 at *
  clear Xq0 Xq1 Xq2 Xq3 Xq4 Xf0 Xf1 Xf2 Xf3 Xf4 Xf5 HE
  clear cB HBk
  obtain ⟨f0, f1, f2, f3, f4, f5, f6, f7, f8, f9, f10, f11, f12, f13, ff, fs⟩ := framef (show w1.heap[w.heap.size]? = some (.cells #[.int .i64 c.kind, .int .i64 c.a, .int .i64 c.b, .int .i64 c.time, .int .i64 c.bk, .int .i64 c.slot, .int .i64 pl, .int .i64 cur, .int .i64 prev, .int .i64 slot, .int .i64 nn, .slice aK keys.length cK, .bool false, .int .i64 ee] 51 (0, 0)) from HE1.out.fb)
  obtain ⟨q0, q1, q2, q3, q4, -, -, -, -, -, qs⟩ := boxf HE1.out.m.box
  go_wp2_with fail
  have HE2 : Hid (Lk2 w _ (Foot B aS aH aF aL) B lo M ⟨c, pl, cur, prev, slot, nn, keys, false, 8⟩ aK cK) := HE1.out.two.store 13 (.int .i64 8) ⟨c, pl, cur, prev, slot, nn, keys, false, 8⟩ rfl
  clear HE1
  refine (adto_any ⟨c, pl, cur, prev, slot, nn, keys, false, 8⟩ 7 w.heap.size aK cK _ HE2.out.fb).mono ?_
  rintro e w9 ⟨rfl, hf9, hx9⟩
  have HE9 : Hid (Lk2 w w9 (Foot B aS aH aF aL) B lo M (toF ⟨c, pl, cur, prev, slot, nn, keys, false, 8⟩ 7) aK cK) := HE2.out.toA hf9 hx9
  clear HE2 hf9 hx9
  clear q0 q1 q2 q3 q4 qs
  clear f0 f1 f2 f3 f4 f5 f6 f7 f8 f9 f10 f11 f12 f13 ff fs
  obtain ⟨g0, g1, g2, g3, g4, g5, g6, g7, g8, g9, g10, g11, g12, g13, gf, gs⟩ := framef HE9.out.zb
  go_wp2
  refine bodyPost_ret (v := .agg #[.int .i64 (lateF ⟨c, pl, cur, prev, slot, nn, keys, false, ee⟩).c.kind, .int .i64 (lateF ⟨c, pl, cur, prev, slot, nn, keys, false, ee⟩).c.a, .int .i64 (lateF ⟨c, pl, cur, prev, slot, nn, keys, false, ee⟩).c.b, .int .i64 (lateF ⟨c, pl, cur, prev, slot, nn, keys, false, ee⟩).c.time, .int .i64 (lateF ⟨c, pl, cur, prev, slot, nn, keys, false, ee⟩).c.bk, .int .i64 (lateF ⟨c, pl, cur, prev, slot, nn, keys, false, ee⟩).c.slot, .int .i64 (lateF ⟨c, pl, cur, prev, slot, nn, keys, false, ee⟩).pl, .int .i64 (lateF ⟨c, pl, cur, prev, slot, nn, keys, false, ee⟩).cur, .int .i64 (lateF ⟨c, pl, cur, prev, slot, nn, keys, false, ee⟩).prev, .int .i64 (lateF ⟨c, pl, cur, prev, slot, nn, keys, false, ee⟩).slot, .int .i64 (lateF ⟨c, pl, cur, prev, slot, nn, keys, false, ee⟩).n, .slice aK (lateF ⟨c, pl, cur, prev, slot, nn, keys, false, ee⟩).keys.length cK, .bool (lateF ⟨c, pl, cur, prev, slot, nn, keys, false, ee⟩).done, .int .i64 (lateF ⟨c, pl, cur, prev, slot, nn, keys, false, ee⟩).e]) (by simp [results, Try.results52, go_sem, lateF, toF, g0, g1, g2, g3, g4, g5, g6, g7, g8, g9, g10, g11, g12, g13]) rfl ⟨⟨aK, cK, rfl, HR.out.fine HE9.out.end14.2 HZ.out, (fun ad h => .inl h), fun _ => ⟨rfl, rfl⟩⟩, HE9.out.end14⟩

end Go.Proofs.Ytdbilofhcadmoab.mm

/- The contract of the document's own AddStep: it does what add's Step does. -/
namespace Go.Proofs.Ytdbilofhcadmoab.mm
open Go.ChangeShapes Go.WideShapes Go.ChangeAt Go.RowKit Go.Joins
set_option maxRecDepth 100000
set_option linter.unusedVariables false

theorem Has.kept {w w' : World} {B lo : Nat} {Z : Nat → Prop} {M : Mm} (h : Has w B lo Z M) (hb : Below w.heap.size w w') : Has w' B lo (Up w Z) M ∧ Fine w w' Z :=
  ⟨(h.below hb).mono (fun _ _ hk => .inl hk), .of_below _ hb⟩

theorem isAt_j {M : Mm} {j : Nat} {c : Cl} {pl prev slot nn ee : Int} {keys : List (Int × Int)} {done : Bool} (hj : j < M.slots.length) : isAt M ⟨c, pl, (j : Int) + 1, prev, slot, nn, keys, done, ee⟩ = true :=
  isAt_iff.2 (by show 1 ≤ (j : Int) + 1 ∧ (j : Int) + 1 ≤ M.slots.length; omega)
theorem isAt_no {M : Mm} {cur : Int} {c : Cl} {pl prev slot nn ee : Int} {keys : List (Int × Int)} {done : Bool} (h : cur ≤ 0) : isAt M ⟨c, pl, cur, prev, slot, nn, keys, done, ee⟩ = false := by
  cases hx : isAt M ⟨c, pl, cur, prev, slot, nn, keys, done, ee⟩
  · rfl
  · have : 1 ≤ cur ∧ _ := isAt_iff.1 hx
    omega
theorem isSl_no {M : Mm} {s : Int} (h : s < 0) : isSl M s = false := by
  cases hx : isSl M s
  · rfl
  · have := (isSl_in.1 hx).1
    omega

theorem rad_mine (t : Int) (M : Mm) (f : Fr) (B lo : Nat) (aS aH aF aL : Option Addr) (cS cH cF cL : Nat) (aK : Option Addr) (cK : Nat) (w : World)
    (m : Mine w B lo aS aH aF aL cS cH cF cL M) (hM : Ok M) (hf : Fit M f) (hk : f.c.kind = 2) (r : KRow w aK cK f.keys) (hz : ∀ ad, aK = some ad → ¬ Foot B aS aH aF aL ad.block) :
    Calls Try.prog 52 #[.pointer (some ⟨B, 0, none⟩), .agg #[.int .i64 f.c.kind, .int .i64 f.c.a, .int .i64 f.c.b, .int .i64 f.c.time, .int .i64 f.c.bk, .int .i64 f.c.slot, .int .i64 f.pl, .int .i64 f.cur, .int .i64 f.prev, .int .i64 f.slot, .int .i64 f.n, .slice aK f.keys.length cK, .bool f.done, .int .i64 f.e], .int .i64 t] w fun e w' => Ret w w' e (adF M f) aK cK ∧ Has w' B lo (Up w (Foot B aS aH aF aL)) (adM t M f) ∧ Fine w w' (Foot B aS aH aF aL) := by
  obtain ⟨c, pl, cur, prev, slot, nn, keys, done, ee⟩ := f
  have hd : done = false := hf.done
  subst hd
  have hpl : 0 ≤ pl ∧ pl ≤ 9 := hf.pl
  have hns := hM.ns
  have hnh := hM.nh
  have hcu : cur ≤ M.slots.length := hf.cur.2
  have hsl : slot < M.slots.length := hf.slot.2
  obtain ⟨k1, k2, k3⟩ : keyB c.a c.b = true ∧ 1 ≤ c.time ∧ c.time ≤ 1000000 := add_key hk hf.call
  have hnow := hM.now
  obtain ⟨b0, b1⟩ : 0 ≤ bkOf M.heads.length c ∧ bkOf M.heads.length c < M.heads.length := bkOf_in hM hf.call
  obtain ⟨b, hb⟩ : ∃ b : Nat, bkOf M.heads.length c = b := ⟨_, (Int.toNat_of_nonneg b0).symm⟩
  have hbl : b < M.heads.length := by omega
  have hbn : ∀ g : Fr, g.c = c → bkN M g = b := fun g hg => by unfold bkN; rw [hg, hb]; rfl
  have HBk : Hid (∀ W : World, Calls Try.prog 32 #[.agg #[.slice aS M.slots.length cS, .slice aH M.heads.length cH, .slice aF M.free.length cF, .slice aL M.locks.length cL, .int .i64 M.now], .agg #[.int .i64 c.kind, .int .i64 c.a, .int .i64 c.b, .int .i64 c.time, .int .i64 c.bk, .int .i64 c.slot]] W fun e w' => e = .returned (.int .i64 (b : Int)) ∧ Below W.heap.size W w') := fun W => hb ▸ chainFor_any aS aH aF aL _ _ _ _ cS cH cF cL M.now c W (by omega)
  by_cases h8 : 8 ≤ pl
  · rw [adF8 (f := ⟨c, pl, cur, prev, slot, nn, keys, false, ee⟩) h8, adM_same (f := ⟨c, pl, cur, prev, slot, nn, keys, false, ee⟩) (by show pl ≠ 0 ∧ pl ≠ 1 ∧ pl ≠ 5 ∧ pl ≠ 6 ∧ pl ≠ 7; omega)]
    exact rad8 t M c cur prev slot nn ee keys B lo aS aH aF aL cS cH cF cL aK cK w b m r hz pl h8 HBk
  · obtain rfl | rfl | rfl | rfl | rfl | rfl | rfl | rfl : pl = 0 ∨ pl = 1 ∨ pl = 2 ∨ pl = 3 ∨ pl = 4 ∨ pl = 5 ∨ pl = 6 ∨ pl = 7 := by omega
    · rw [adF0 rfl, adM0 rfl]
      by_cases hF : M.free.length = 0
      · rw [show adTake M ⟨c, 0, cur, prev, slot, nn, keys, false, ee⟩ = endF ⟨c, 0, cur, prev, slot, nn, keys, false, ee⟩ 7 by unfold adTake; rw [if_pos hF], show adTakeM M ⟨c, 0, cur, prev, slot, nn, keys, false, ee⟩ = M by unfold adTakeM; rw [if_pos hF]]
        exact rad0a t M c cur prev slot nn ee keys B lo aS aH aF aL cS cH cF cL aK cK w b m r hz hnow.1 hnow.2 k2 k3 M (fun W Z h => (rtake_none h hF).mono (fun e w' h' => ⟨h'.1, h.kept h'.2⟩)) HBk
      · rw [show adTake M ⟨c, 0, cur, prev, slot, nn, keys, false, ee⟩ = handF ⟨c, 0, cur, prev, slot, nn, keys, false, ee⟩ (lastF M) 1 by unfold adTake; rw [if_neg hF], show adTakeM M ⟨c, 0, cur, prev, slot, nn, keys, false, ee⟩ = takeM M c.a c.b (M.now + c.time) by unfold adTakeM untA; rw [if_neg hF, if_neg (by show ¬ 2000000 < M.now + c.time; omega)]]
        exact rad0b t M c cur prev slot nn ee keys B lo aS aH aF aL cS cH cF cL aK cK w b m r hz _ hnow.1 hnow.2 k2 k3 _ (fun W Z h => rtake_fine h hM (by omega)) HBk
    · rw [adF1 rfl, adM1 rfl]
      have e1 : adLockM M ⟨c, 1, cur, prev, slot, nn, keys, false, ee⟩ t = lockN M b t := by unfold adLockM lockN; rw [hbn _ rfl]
      rw [e1]
      have e2 : adLock M ⟨c, 1, cur, prev, slot, nn, keys, false, ee⟩ = if lockAt M b = -1 then toF ⟨c, 1, cur, prev, slot, nn, keys, false, ee⟩ 2 else ⟨c, 1, cur, prev, slot, nn, keys, false, ee⟩ := by unfold adLock; rw [hbn _ rfl]
      rw [e2]
      by_cases hl : lockAt M b = -1
      · rw [if_pos hl]
        have hl' : (lockAt M b == -1) = true := by simp [hl]
        exact rad1a t M c cur prev slot nn ee keys B lo aS aH aF aL cS cH cF cL aK cK w b m r hz _ (fun W Z h => hl' ▸ rlock_fine t h hM hbl) HBk
      · rw [if_neg hl]
        have hl' : (lockAt M b == -1) = false := by simpa using hl
        exact rad1b t M c cur prev slot nn ee keys B lo aS aH aF aL cS cH cF cL aK cK w b m r hz _ (fun W Z h => hl' ▸ rlock_fine t h hM hbl) HBk
    · rw [adF2 rfl, adM_same (by show (2 : Int) ≠ 0 ∧ (2 : Int) ≠ 1 ∧ (2 : Int) ≠ 5 ∧ (2 : Int) ≠ 6 ∧ (2 : Int) ≠ 7; omega), hbn _ rfl]
      exact rad2 t M c cur prev slot nn ee keys B lo aS aH aF aL cS cH cF cL aK cK w b m r hz _ hbl hnh.2 (by simp [headM, List.getD_eq_getElem?_getD, hbl]) HBk
    · rw [adF3 rfl, adM_same (by show (3 : Int) ≠ 0 ∧ (3 : Int) ≠ 1 ∧ (3 : Int) ≠ 5 ∧ (3 : Int) ≠ 6 ∧ (3 : Int) ≠ 7; omega)]
      by_cases hc : cur ≤ 0
      · rw [show adSee M ⟨c, 3, cur, prev, slot, nn, keys, false, ee⟩ = toF ⟨c, 3, cur, prev, slot, nn, keys, false, ee⟩ 5 by unfold adSee; rw [isAt_no hc]; rfl]
        exact rad3a t M c cur prev slot nn ee keys B lo aS aH aF aL cS cH cF cL aK cK w b m r hz hc HBk
      · obtain ⟨j, rfl⟩ : ∃ j : Nat, cur = (j : Int) + 1 := ⟨(cur - 1).toNat, by omega⟩
        have hj : j < M.slots.length := by omega
        have e0 : adSee M ⟨c, 3, (j : Int) + 1, prev, slot, nn, keys, false, ee⟩ = toF ⟨c, 3, (j : Int) + 1, prev, slot, nn, keys, false, ee⟩ (if lkK (slotAt M j) ⟨c, 3, 0, 0, 0, 0, [], false, 0⟩ then 6 else 4) := by
          unfold adSee
          rw [if_pos (isAt_j hj)]
          show toF _ (if lkK (slotAt M ((j : Int) + 1 - 1)) _ then 6 else 4) = _
          rw [show (j : Int) + 1 - 1 = j by omega]
          rfl
        rw [e0]
        cases hk : lkK (slotAt M j) ⟨c, 3, 0, 0, 0, 0, [], false, 0⟩
        · exact rad3false t M c prev slot nn ee keys B lo aS aH aF aL cS cH cF cL aK cK w b m r hz j _ hns hj rfl hk HBk
        · exact rad3true t M c prev slot nn ee keys B lo aS aH aF aL cS cH cF cL aK cK w b m r hz j _ hns hj rfl hk HBk
    · rw [adF4 rfl, adM_same (by show (4 : Int) ≠ 0 ∧ (4 : Int) ≠ 1 ∧ (4 : Int) ≠ 5 ∧ (4 : Int) ≠ 6 ∧ (4 : Int) ≠ 7; omega)]
      by_cases hc : cur ≤ 0
      · rw [show adPass M ⟨c, 4, cur, prev, slot, nn, keys, false, ee⟩ = lateF ⟨c, 4, cur, prev, slot, nn, keys, false, ee⟩ by unfold adPass; rw [isAt_no hc]; rfl]
        exact rad4b t M c cur prev slot nn ee keys B lo aS aH aF aL cS cH cF cL aK cK w b m r hz hc HBk
      · obtain ⟨j, rfl⟩ : ∃ j : Nat, cur = (j : Int) + 1 := ⟨(cur - 1).toNat, by omega⟩
        have hj : j < M.slots.length := by omega
        have e0 : adPass M ⟨c, 4, (j : Int) + 1, prev, slot, nn, keys, false, ee⟩ = curF ⟨c, 4, (j : Int) + 1, prev, slot, nn, keys, false, ee⟩ (slotAt M j).next 3 := by
          unfold adPass
          rw [if_pos (isAt_j hj)]
          show curF _ (slotAt M ((j : Int) + 1 - 1)).next 3 = _
          rw [show (j : Int) + 1 - 1 = j by omega]
        rw [e0]
        exact rad4a t M c prev slot nn ee keys B lo aS aH aF aL cS cH cF cL aK cK w b m r hz j _ hns hj rfl HBk
    · rw [adF5 rfl, adM5 rfl]
      by_cases hs : slot < 0
      · rw [show adLink M ⟨c, 5, cur, prev, slot, nn, keys, false, ee⟩ = lateF ⟨c, 5, cur, prev, slot, nn, keys, false, ee⟩ by unfold adLink; rw [isSl_no hs]; rfl, show adLinkM M ⟨c, 5, cur, prev, slot, nn, keys, false, ee⟩ = M by unfold adLinkM; rw [isSl_no hs]; rfl]
        exact rad5b t M c cur prev slot nn ee keys B lo aS aH aF aL cS cH cF cL aK cK w b m r hz hs HBk
      · obtain ⟨j, rfl⟩ : ∃ j : Nat, slot = (j : Int) := ⟨slot.toNat, by omega⟩
        have hj : j < M.slots.length := by omega
        have hi : isSl M (j : Int) = true := isSl_in.2 (by omega)
        rw [show adLink M ⟨c, 5, cur, prev, (j : Int), nn, keys, false, ee⟩ = { (⟨c, 5, cur, prev, (j : Int), nn, keys, false, ee⟩ : Fr) with e := 0, pl := 7 } by unfold adLink; rw [hi]; rfl, show adLinkM M ⟨c, 5, cur, prev, (j : Int), nn, keys, false, ee⟩ = linkB M j b by unfold adLinkM; rw [hi, hbn _ rfl]; rfl]
        exact rad5a t M c cur prev nn ee keys B lo aS aH aF aL cS cH cF cL aK cK w b m r hz j _ (fun W Z h => rlink_fine h hM hj hbl) HBk
    · rw [adF6 rfl, adM6 rfl]
      by_cases hs : slot < 0
      · rw [show adPut M ⟨c, 6, cur, prev, slot, nn, keys, false, ee⟩ = lateF ⟨c, 6, cur, prev, slot, nn, keys, false, ee⟩ by unfold adPut; rw [isSl_no hs]; rfl, show adPutM M ⟨c, 6, cur, prev, slot, nn, keys, false, ee⟩ = M by unfold adPutM; rw [isSl_no hs]; rfl]
        exact rad6b t M c cur prev slot nn ee keys B lo aS aH aF aL cS cH cF cL aK cK w b m r hz hs HBk
      · have hi : isSl M slot = true := isSl_in.2 (by omega)
        rw [show adPut M ⟨c, 6, cur, prev, slot, nn, keys, false, ee⟩ = { (⟨c, 6, cur, prev, slot, nn, keys, false, ee⟩ : Fr) with slot := -1, e := 6, pl := 7 } by unfold adPut; rw [hi]; rfl, show adPutM M ⟨c, 6, cur, prev, slot, nn, keys, false, ee⟩ = putN M slot by unfold adPutM; rw [hi]; rfl]
        exact rad6a t M c cur prev slot nn ee keys B lo aS aH aF aL cS cH cF cL aK cK w b m r hz (by omega) _ (fun W Z h => rput_fine h hM hi) HBk
    · rw [adF7 rfl, adM7 rfl]
      have e1 : adOpenM M ⟨c, 7, cur, prev, slot, nn, keys, false, ee⟩ t = openN M b t := by unfold adOpenM openN; rw [hbn _ rfl]
      rw [e1]
      exact rad7 t M c cur prev slot nn ee keys B lo aS aH aF aL cS cH cF cL aK cK w b m r hz _ (fun W Z h => runlock_fine t h hM hbl) HBk
end Go.Proofs.Ytdbilofhcadmoab.mm

/- Two memories of one's own, made in one row of the program, in whatever order its parts are reckoned. -/
namespace Go.Proofs.Ytdbilofhcadmoab.mm
open Go.ChangeShapes Go.WideShapes Go.ChangeAt Go.RowKit Go.Joins
set_option maxRecDepth 100000
set_option linter.unusedVariables false

def Rows4 (aS aH aF aL : Option Addr) (k : Nat) : Prop :=
  (∃ ad, aS = some ad ∧ ad.block = k) ∨ (∃ ad, aH = some ad ∧ ad.block = k) ∨ (∃ ad, aF = some ad ∧ ad.block = k) ∨ (∃ ad, aL = some ad ∧ ad.block = k)
theorem Rw.rows {w : World} {lo : Nat} {aS aH aF aL : Option Addr} {cS cH cF cL : Nat} {M : Mm} (r : Rw w lo aS aH aF aL cS cH cF cL M) : ∀ k, Rows4 aS aH aF aL k → lo ≤ k ∧ k < w.heap.size := by
  rintro k (⟨ad, rfl, rfl⟩ | ⟨ad, rfl, rfl⟩ | ⟨ad, rfl, rfl⟩ | ⟨ad, rfl, rfl⟩)
  · exact r.s.lt _ rfl
  · exact r.h.lt _ rfl
  · exact r.f.lt _ rfl
  · exact r.l.lt _ rfl
theorem Rw.low {w : World} {lo n : Nat} {aS aH aF aL : Option Addr} {cS cH cF cL : Nat} {M : Mm} (r : Rw w lo aS aH aF aL cS cH cF cL M) (h : n ≤ lo) : Rw w n aS aH aF aL cS cH cF cL M :=
  ⟨ownsRow_le r.s h, ownsRow_le r.h h, ownsRow_le r.f h, ownsRow_le r.l h, r.hf, r.hl, r.fl, Nat.le_trans h r.lz⟩

/- A value that is memory of one's own, its rows within Z. -/
def Got (W : World) (lo : Nat) (M : Mm) (Z : Nat → Prop) (v : Value) : Prop :=
  ∃ xS xH xF xL kS kH kF kL, v = .agg #[.slice xS M.slots.length kS, .slice xH M.heads.length kH, .slice xF M.free.length kF, .slice xL M.locks.length kL, .int .i64 M.now] ∧ Rw W lo xS xH xF xL kS kH kF kL M ∧ ∀ k, Rows4 xS xH xF xL k → Z k
theorem Got.below {W W' : World} {lo : Nat} {M : Mm} {Z : Nat → Prop} {v : Value} (g : Got W lo M Z v) (hb : Below W.heap.size W W') : Got W' lo M Z v := by
  obtain ⟨xS, xH, xF, xL, kS, kH, kF, kL, e, r, h⟩ := g
  exact ⟨xS, xH, xF, xL, kS, kH, kF, kL, e, r.below hb, h⟩
theorem Got.set5 {W : World} {lo B : Nat} {M : Mm} {Z : Nat → Prop} {v u0 u1 u2 u3 u4 : Value} (g : Got W lo M Z v) (hB : W.heap[B]? = some (.cells #[u0, u1, u2, u3, u4] 25 (0, 0))) (v0 v1 v2 v3 v4 : Value) : Got (set5 W B v0 v1 v2 v3 v4) lo M Z v := by
  obtain ⟨xS, xH, xF, xL, kS, kH, kF, kL, e, r, h⟩ := g
  exact ⟨xS, xH, xF, xL, kS, kH, kF, kL, e, r.set5 hB _ _ _ _ _, h⟩

def zeroTw : Obj := .cells #[.slice none 0 0, .slice none 0 0, .slice none 0 0, .slice none 0 0, .int .i64 0] 25 (0, 0)
def boxO (v : Value) : Obj := match v with
  | .agg cs => .cells cs 25 (0, 0)
  | _ => zeroTw
def updZ (Z : Nat → Nat → Prop) (i : Nat) (S : Nat → Prop) : Nat → Nat → Prop := fun j => if j = i then S else Z j
def New (W W' : World) (k : Nat) : Prop := W.heap.size ≤ k ∧ k < W'.heap.size

structure Tw (w2 : World) (M : Mm) (mv : Value) (L : Nat → Bool) (x : Nat → Value) (Z : Nat → Nat → Prop) (W : World) : Prop where
  bl : Below w2.heap.size w2 W
  rng : ∀ i k, Z i k → w2.heap.size ≤ k ∧ k < W.heap.size
  dj : ∀ i j k, Z i k → Z j k → i = j
  p0 : L 0 = true → x 18 = mv
  p2 : L 2 = true → x 20 = mv
  p1 : L 1 = true → Got W w2.heap.size M (Z 1) (x 19)
  p3 : L 3 = true → Got W w2.heap.size M (Z 3) (x 21)
  p4 : L 4 = true → ∃ B, x 5 = .pointer (some ⟨B, 0, none⟩) ∧ Z 4 B ∧ (L 6 = false → W.heap[B]? = some zeroTw) ∧ (L 6 = true → W.heap[B]? = some (boxO (x 19)))
  p5 : L 5 = true → ∃ B, x 6 = .pointer (some ⟨B, 0, none⟩) ∧ Z 5 B ∧ (L 7 = false → W.heap[B]? = some zeroTw) ∧ (L 7 = true → W.heap[B]? = some (boxO (x 21)))
  e6 : L 6 = true → L 1 = true ∧ L 4 = true
  e7 : L 7 = true → L 3 = true ∧ L 5 = true

section
variable {w2 W W' : World} {M : Mm} {mv v : Value} {L : Nat → Bool} {x : Nat → Value} {Z : Nat → Nat → Prop}

theorem Tw.start (hb : Below w2.heap.size w2 W) : Tw w2 M mv (fun _ => false) x (fun _ _ => False) W :=
  ⟨hb, (fun i k h => h.elim), (fun i j k h => h.elim), (fun h => by cases h), (fun h => by cases h), (fun h => by cases h), (fun h => by cases h), (fun h => by cases h), (fun h => by cases h), (fun h => by cases h), (fun h => by cases h)⟩

theorem box_below {B : Nat} {o : Obj} (h : W.heap[B]? = some o) (hb : Below W.heap.size W W') : W'.heap[B]? = some o := (hb.block B (lt_of_block h)).trans h

theorem tw_rng (T : Tw w2 M mv L x Z W) (hb : Below W.heap.size W W') (i : Nat) : ∀ j k, updZ Z i (New W W') j k → w2.heap.size ≤ k ∧ k < W'.heap.size := by
  intro j k h
  unfold updZ at h
  split at h
  · exact ⟨Nat.le_trans T.bl.size h.1, h.2⟩
  · exact ⟨(T.rng j k h).1, Nat.lt_of_lt_of_le (T.rng j k h).2 hb.size⟩
theorem tw_dj (T : Tw w2 M mv L x Z W) (i : Nat) : ∀ j l k, updZ Z i (New W W') j k → updZ Z i (New W W') l k → j = l := by
  intro j l k h1 h2
  unfold updZ at h1 h2
  split at h1 <;> split at h2
  · subst_vars; rfl
  · have := (T.rng l k h2).2; have := h1.1; omega
  · have := (T.rng j k h1).2; have := h2.1; omega
  · exact T.dj j l k h1 h2

theorem Tw.a0 (T : Tw w2 M mv L x Z W) : Tw w2 M mv (upd L 0) (updv x 18 mv) Z W :=
  ⟨T.bl, T.rng, T.dj, (fun _ => rfl), T.p2, T.p1, T.p3, T.p4, T.p5, T.e6, T.e7⟩
theorem Tw.a2 (T : Tw w2 M mv L x Z W) : Tw w2 M mv (upd L 2) (updv x 20 mv) Z W :=
  ⟨T.bl, T.rng, T.dj, T.p0, (fun _ => rfl), T.p1, T.p3, T.p4, T.p5, T.e6, T.e7⟩

theorem Tw.a1 (T : Tw w2 M mv L x Z W) (h1 : L 1 = false) (hb : Below W.heap.size W W') (g : Got W' W.heap.size M (fun _ => True) v) : Tw w2 M mv (upd L 1) (updv x 19 v) (updZ Z 1 (New W W')) W' := by
  have h6 : L 6 = false := by
    cases h : L 6
    · rfl
    · have := (T.e6 h).1; rw [h1] at this; cases this
  refine ⟨T.bl.trans (hb.mono T.bl.size), tw_rng T hb 1, tw_dj T 1, T.p0, T.p2, fun _ => ?_, fun h => (T.p3 h).below hb, fun h => ?_, fun h => ?_, (fun h => by have h' : L 6 = true := h; rw [h6] at h'; cases h'), T.e7⟩
  · obtain ⟨xS, xH, xF, xL, kS, kH, kF, kL, e, r, -⟩ := g
    exact ⟨xS, xH, xF, xL, kS, kH, kF, kL, e, r.low T.bl.size, fun k hk => r.rows k hk⟩
  · obtain ⟨B, e, hz, i1, i2⟩ := T.p4 h
    exact ⟨B, e, hz, (fun h' => box_below (i1 h') hb), fun h' => by have h'' : L 6 = true := h'; rw [h6] at h''; cases h''⟩
  · obtain ⟨B, e, hz, i1, i2⟩ := T.p5 h
    exact ⟨B, e, hz, (fun h' => box_below (i1 h') hb), fun h' => box_below (i2 h') hb⟩
theorem Tw.a3 (T : Tw w2 M mv L x Z W) (h3 : L 3 = false) (hb : Below W.heap.size W W') (g : Got W' W.heap.size M (fun _ => True) v) : Tw w2 M mv (upd L 3) (updv x 21 v) (updZ Z 3 (New W W')) W' := by
  have h7 : L 7 = false := by
    cases h : L 7
    · rfl
    · have := (T.e7 h).1; rw [h3] at this; cases this
  refine ⟨T.bl.trans (hb.mono T.bl.size), tw_rng T hb 3, tw_dj T 3, T.p0, T.p2, fun h => (T.p1 h).below hb, fun _ => ?_, fun h => ?_, fun h => ?_, T.e6, (fun h => by have h' : L 7 = true := h; rw [h7] at h'; cases h')⟩
  · obtain ⟨xS, xH, xF, xL, kS, kH, kF, kL, e, r, -⟩ := g
    exact ⟨xS, xH, xF, xL, kS, kH, kF, kL, e, r.low T.bl.size, fun k hk => r.rows k hk⟩
  · obtain ⟨B, e, hz, i1, i2⟩ := T.p4 h
    exact ⟨B, e, hz, (fun h' => box_below (i1 h') hb), fun h' => box_below (i2 h') hb⟩
  · obtain ⟨B, e, hz, i1, i2⟩ := T.p5 h
    exact ⟨B, e, hz, (fun h' => box_below (i1 h') hb), fun h' => by have h'' : L 7 = true := h'; rw [h7] at h''; cases h''⟩
theorem Tw.a4 (T : Tw w2 M mv L x Z W) (h4 : L 4 = false) : Tw w2 M mv (upd L 4) (updv x 5 (.pointer (some ⟨W.heap.size, 0, none⟩))) (updZ Z 4 (New W (W.alloc zeroTw))) (W.alloc zeroTw) := by
  have hb := one_below W zeroTw
  have h6 : L 6 = false := by
    cases h : L 6
    · rfl
    · have := (T.e6 h).2; rw [h4] at this; cases this
  refine ⟨T.bl.trans (hb.mono T.bl.size), tw_rng T hb 4, tw_dj T 4, T.p0, T.p2, fun h => (T.p1 h).below hb, fun h => (T.p3 h).below hb, fun _ => ?_, fun h => ?_, (fun h => by have h' : L 6 = true := h; rw [h6] at h'; cases h'), T.e7⟩
  · exact ⟨W.heap.size, rfl, ⟨Nat.le_refl _, lt_of_block (heap_alloc_new W zeroTw)⟩, (fun _ => heap_alloc_new W zeroTw), fun h' => by have h'' : L 6 = true := h'; rw [h6] at h''; cases h''⟩
  · obtain ⟨B, e, hz, i1, i2⟩ := T.p5 h
    exact ⟨B, e, hz, (fun h' => box_below (i1 h') hb), fun h' => box_below (i2 h') hb⟩
theorem Tw.a5 (T : Tw w2 M mv L x Z W) (h5 : L 5 = false) : Tw w2 M mv (upd L 5) (updv x 6 (.pointer (some ⟨W.heap.size, 0, none⟩))) (updZ Z 5 (New W (W.alloc zeroTw))) (W.alloc zeroTw) := by
  have hb := one_below W zeroTw
  have h7 : L 7 = false := by
    cases h : L 7
    · rfl
    · have := (T.e7 h).2; rw [h5] at this; cases this
  refine ⟨T.bl.trans (hb.mono T.bl.size), tw_rng T hb 5, tw_dj T 5, T.p0, T.p2, fun h => (T.p1 h).below hb, fun h => (T.p3 h).below hb, fun h => ?_, fun _ => ?_, T.e6, (fun h => by have h' : L 7 = true := h; rw [h7] at h'; cases h')⟩
  · obtain ⟨B, e, hz, i1, i2⟩ := T.p4 h
    exact ⟨B, e, hz, (fun h' => box_below (i1 h') hb), fun h' => box_below (i2 h') hb⟩
  · exact ⟨W.heap.size, rfl, ⟨Nat.le_refl _, lt_of_block (heap_alloc_new W zeroTw)⟩, (fun _ => heap_alloc_new W zeroTw), fun h' => by have h'' : L 7 = true := h'; rw [h7] at h''; cases h''⟩

theorem tw_other {B k : Nat} (h : k ≠ B) (v0 v1 v2 v3 v4 : Value) : (set5 W B v0 v1 v2 v3 v4).heap[k]? = W.heap[k]? := set5_other h
theorem tw_size {B : Nat} (v0 v1 v2 v3 v4 : Value) : (set5 W B v0 v1 v2 v3 v4).heap.size = W.heap.size := set5_size _ _ _ _ _ _ _
theorem tw_below {B n : Nat} (h : n ≤ B) (v0 v1 v2 v3 v4 : Value) : Below n W (set5 W B v0 v1 v2 v3 v4) := set5_below _ _ _ _ _ _ _ _ h

theorem Tw.a6 {B : Nat} {v0 v1 v2 v3 v4 : Value} (T : Tw w2 M mv L x Z W) (g1 : L 1 = true) (g4 : L 4 = true) (h6 : L 6 = false) (hB : x 5 = .pointer (some ⟨B, 0, none⟩)) (hv : x 19 = .agg #[v0, v1, v2, v3, v4]) : Tw w2 M mv (upd L 6) x Z (set5 W B v0 v1 v2 v3 v4) := by
  obtain ⟨B', e, hz, i1, -⟩ := T.p4 g4
  rw [hB] at e
  injection e with e; injection e with e; injection e with e
  subst e
  have hz0 := i1 h6
  refine ⟨T.bl.trans (tw_below (T.rng 4 B hz).1 _ _ _ _ _), fun i k h => by rw [tw_size]; exact T.rng i k h, T.dj, T.p0, T.p2, fun h => (T.p1 h).set5 hz0 _ _ _ _ _, fun h => (T.p3 h).set5 hz0 _ _ _ _ _, fun _ => ?_, fun h => ?_, fun _ => ⟨g1, g4⟩, T.e7⟩
  · refine ⟨B, hB, hz, (fun h => by cases h), fun _ => ?_⟩
    rw [hv]
    exact set5_block hz0 _ _ _ _ _
  · obtain ⟨B5, e5, hz5, j1, j2⟩ := T.p5 h
    have hne : B5 ≠ B := by rintro rfl; have := T.dj 4 5 _ hz hz5; omega
    exact ⟨B5, e5, hz5, (fun h' => (tw_other hne _ _ _ _ _).trans (j1 h')), fun h' => (tw_other hne _ _ _ _ _).trans (j2 h')⟩
theorem Tw.a7 {B : Nat} {v0 v1 v2 v3 v4 : Value} (T : Tw w2 M mv L x Z W) (g3 : L 3 = true) (g5 : L 5 = true) (h7 : L 7 = false) (hB : x 6 = .pointer (some ⟨B, 0, none⟩)) (hv : x 21 = .agg #[v0, v1, v2, v3, v4]) : Tw w2 M mv (upd L 7) x Z (set5 W B v0 v1 v2 v3 v4) := by
  obtain ⟨B', e, hz, i1, -⟩ := T.p5 g5
  rw [hB] at e
  injection e with e; injection e with e; injection e with e
  subst e
  have hz0 := i1 h7
  refine ⟨T.bl.trans (tw_below (T.rng 5 B hz).1 _ _ _ _ _), fun i k h => by rw [tw_size]; exact T.rng i k h, T.dj, T.p0, T.p2, fun h => (T.p1 h).set5 hz0 _ _ _ _ _, fun h => (T.p3 h).set5 hz0 _ _ _ _ _, fun h => ?_, fun _ => ?_, T.e6, fun _ => ⟨g3, g5⟩⟩
  · obtain ⟨B5, e5, hz5, j1, j2⟩ := T.p4 h
    have hne : B5 ≠ B := by rintro rfl; have := T.dj 4 5 _ hz5 hz; omega
    exact ⟨B5, e5, hz5, (fun h' => (tw_other hne _ _ _ _ _).trans (j1 h')), fun h' => (tw_other hne _ _ _ _ _).trans (j2 h')⟩
  · refine ⟨B, hB, hz, (fun h => by cases h), fun _ => ?_⟩
    rw [hv]
    exact set5_block hz0 _ _ _ _ _

/- In the end there are two boxes, with a memory of one's own in each, apart from each other. -/
theorem Tw.fin (T : Tw w2 M mv L x Z W) (g6 : L 6 = true) (g7 : L 7 = true)
    (m1 : M.slots.length * 48 ≤ 140737488351232) (m2 : M.heads.length * 8 ≤ 140737488351232) (m3 : M.free.length * 8 ≤ 140737488351000) (m4 : M.locks.length * 8 ≤ 140737488351232) :
    ∃ Bx By xS xH xF xL kS kH kF kL yS yH yF yL jS jH jF jL, x 5 = .pointer (some ⟨Bx, 0, none⟩) ∧ x 6 = .pointer (some ⟨By, 0, none⟩) ∧ Mine W Bx w2.heap.size xS xH xF xL kS kH kF kL M ∧ Mine W By w2.heap.size yS yH yF yL jS jH jF jL M ∧
      (∀ k, Foot Bx xS xH xF xL k → w2.heap.size ≤ k) ∧ (∀ k, Foot By yS yH yF yL k → w2.heap.size ≤ k ∧ ¬ Foot Bx xS xH xF xL k) := by
  obtain ⟨g1, g4⟩ := T.e6 g6
  obtain ⟨g3, g5⟩ := T.e7 g7
  obtain ⟨xS, xH, xF, xL, kS, kH, kF, kL, ex, rx, hx⟩ := T.p1 g1
  obtain ⟨yS, yH, yF, yL, jS, jH, jF, jL, ey, ry, hy⟩ := T.p3 g3
  obtain ⟨Bx, e5, z5, -, b5⟩ := T.p4 g4
  obtain ⟨By, e6, z6, -, b6⟩ := T.p5 g5
  have b5' := b5 g6
  have b6' := b6 g7
  rw [ex] at b5'
  rw [ey] at b6'
  have fx : ∀ k, Foot Bx xS xH xF xL k → Z 4 k ∨ Z 1 k := by
    rintro k (rfl | h)
    · exact .inl z5
    · exact .inr (hx k h)
  have fy : ∀ k, Foot By yS yH yF yL k → Z 5 k ∨ Z 3 k := by
    rintro k (rfl | h)
    · exact .inl z6
    · exact .inr (hy k h)
  refine ⟨Bx, By, xS, xH, xF, xL, kS, kH, kF, kL, yS, yH, yF, yL, jS, jH, jF, jL, e5, e6, ⟨b5', rx, m1, m2, m3, m4⟩, ⟨b6', ry, m1, m2, m3, m4⟩, fun k h => ?_, fun k h => ⟨?_, fun h' => ?_⟩⟩
  · rcases fx k h with h | h
    · exact (T.rng _ k h).1
    · exact (T.rng _ k h).1
  · rcases fy k h with h | h
    · exact (T.rng _ k h).1
    · exact (T.rng _ k h).1
  · rcases fy k h with h | h <;> rcases fx k h' with h' | h'
    · have := T.dj _ _ k h h'; omega
    · have := T.dj _ _ k h h'; omega
    · have := T.dj _ _ k h h'; omega
    · have := T.dj _ _ k h h'; omega
end

theorem wp_region_at {P : Program} {ops : Array Oper} {Q : Exit → Act → World → Prop} {id : Nat} {a : Act} {w : World} (hm : P.follows .mixedOrders = true) (mk : (Nat → Value) → Act) (ha : a = mk fun k => a.tmps.getD k undef) (J : (Nat → Value) → Array Bool → (Nat → Value) → World → Prop)
    (start : J (fun k => a.tmps.getD k undef) (Array.replicate ops.size false) (fun k => a.tmps.getD k undef) { w with drawn := w.drawn + 1 })
    (step : ∀ listed x W i, i ∈ Region.ready .any ops listed → J (fun k => a.tmps.getD k undef) listed x W → wpOp P ops Q i (fun a' W' => ∃ x', a' = mk x' ∧ J (fun k => a.tmps.getD k undef) (listed.setIfInBounds i true) x' W') (mk x) W)
    (fin : ∀ listed x W, Region.ready .any ops listed = [] → J (fun k => a.tmps.getD k undef) listed x W → Q .normal (mk x) W) : (Code.region id ops true).wp P Q a w :=
  wp_region_inv hm (fun l a' W => ∃ x, a' = mk x ∧ J (fun k => a.tmps.getD k undef) l x W) ⟨_, ha, start⟩ (by rintro l a' W i hi ⟨x, rfl, hJ⟩; exact step l x W i hi hJ) (by rintro l a' W hr ⟨x, rfl, hJ⟩; exact fin l x W hr hJ)

theorem wpOp_in {P : Program} {ops : Array Oper} {Q : Exit → Act → World → Prop} {i : Nat} {o : Oper} {a : Act} {w : World} {f : Nat} {args : Array Value} {K : Act → World → Prop} (hi : ops[i]? = some o) (hg : o.guard = none)
    (hr : (execOp a.eval o).run P w = .ok (.enter f args) w) (h : Calls P f args w fun e w' => ∃ v, e = .returned v ∧ K (a.put o.dst v) w') : wpOp P ops Q i K a w := by
  refine wpOp_step hi fun K' hK => ?_
  have hw : Region.wanted o (yielded ops a.tmps) = true := by unfold Region.wanted; rw [hg]
  rw [if_pos hw]
  unfold Oper.wp
  rw [hr]
  refine Calls.mono h ?_
  rintro e w' ⟨v, rfl, hv⟩
  exact hK _ _ hv

/- What a region's walk carries: what has come up, and what no operation changes. -/
def Jt (w2 : World) (M : Mm) (mv : Value) (b : Nat → Value) (listed : Array Bool) (x : Nat → Value) (W : World) : Prop :=
  listed.size = 8 ∧ (∀ k, k ∉ [5, 6, 18, 19, 20, 21] → x k = b k) ∧ ∃ Z, Tw w2 M mv (fun i => listed.getD i false) x Z W
theorem Jt.next {w2 W W' : World} {M : Mm} {mv : Value} {b : Nat → Value} {listed : Array Bool} {x x' : Nat → Value} {Z : Nat → Nat → Prop} (J : Jt w2 M mv b listed x W) (i : Nat) (hi : i < 8) (hx : ∀ k, k ∉ [5, 6, 18, 19, 20, 21] → x' k = x k) (T : Tw w2 M mv (upd (fun k => listed.getD k false) i) x' Z W') : Jt w2 M mv b (listed.setIfInBounds i true) x' W' := by
  refine ⟨by simpa using J.1, fun k hk => (hx k hk).trans (J.2.1 k hk), Z, ?_⟩
  have e : (fun k => (listed.setIfInBounds i true).getD k false) = upd (fun k => listed.getD k false) i := by
    funext k
    have := J.1
    by_cases hk : k = i
    · subst hk
      simp [upd, Array.getD_eq_getD_getElem?, J.1, hi]
    · have hk' : ¬ i = k := fun e => hk e.symm
      simp [upd, hk, Array.getD_eq_getD_getElem?, hk']
  rw [e]
  exact T
theorem updv_out {x : Nat → Value} {d : Nat} {v : Value} (hd : d ∈ [5, 6, 18, 19, 20, 21]) : ∀ k, k ∉ [5, 6, 18, 19, 20, 21] → updv x d v k = x k := by
  intro k hk
  unfold updv
  rw [if_neg]
  rintro rfl
  exact hk hd

end Go.Proofs.Ytdbilofhcadmoab.mm

/- Two memories of one's own, made in one row of the program, as in Two: in a law that is handed a number too. -/
namespace Go.Proofs.Ytdbilofhcadmoab.mm
open Go.ChangeShapes Go.WideShapes Go.ChangeAt Go.RowKit Go.Joins
set_option maxRecDepth 100000
set_option linter.unusedVariables false

structure TwT (w2 : World) (M : Mm) (mv : Value) (L : Nat → Bool) (x : Nat → Value) (Z : Nat → Nat → Prop) (W : World) : Prop where
  bl : Below w2.heap.size w2 W
  rng : ∀ i k, Z i k → w2.heap.size ≤ k ∧ k < W.heap.size
  dj : ∀ i j k, Z i k → Z j k → i = j
  p0 : L 0 = true → x 20 = mv
  p2 : L 2 = true → x 22 = mv
  p1 : L 1 = true → Got W w2.heap.size M (Z 1) (x 21)
  p3 : L 3 = true → Got W w2.heap.size M (Z 3) (x 23)
  p4 : L 4 = true → ∃ B, x 7 = .pointer (some ⟨B, 0, none⟩) ∧ Z 4 B ∧ (L 6 = false → W.heap[B]? = some zeroTw) ∧ (L 6 = true → W.heap[B]? = some (boxO (x 21)))
  p5 : L 5 = true → ∃ B, x 8 = .pointer (some ⟨B, 0, none⟩) ∧ Z 5 B ∧ (L 7 = false → W.heap[B]? = some zeroTw) ∧ (L 7 = true → W.heap[B]? = some (boxO (x 23)))
  e6 : L 6 = true → L 1 = true ∧ L 4 = true
  e7 : L 7 = true → L 3 = true ∧ L 5 = true

section
variable {w2 W W' : World} {M : Mm} {mv v : Value} {L : Nat → Bool} {x : Nat → Value} {Z : Nat → Nat → Prop}

theorem TwT.start (hb : Below w2.heap.size w2 W) : TwT w2 M mv (fun _ => false) x (fun _ _ => False) W :=
  ⟨hb, (fun i k h => h.elim), (fun i j k h => h.elim), (fun h => by cases h), (fun h => by cases h), (fun h => by cases h), (fun h => by cases h), (fun h => by cases h), (fun h => by cases h), (fun h => by cases h), (fun h => by cases h)⟩


theorem twT_rng (T : TwT w2 M mv L x Z W) (hb : Below W.heap.size W W') (i : Nat) : ∀ j k, updZ Z i (New W W') j k → w2.heap.size ≤ k ∧ k < W'.heap.size := by
  intro j k h
  unfold updZ at h
  split at h
  · exact ⟨Nat.le_trans T.bl.size h.1, h.2⟩
  · exact ⟨(T.rng j k h).1, Nat.lt_of_lt_of_le (T.rng j k h).2 hb.size⟩
theorem twT_dj (T : TwT w2 M mv L x Z W) (i : Nat) : ∀ j l k, updZ Z i (New W W') j k → updZ Z i (New W W') l k → j = l := by
  intro j l k h1 h2
  unfold updZ at h1 h2
  split at h1 <;> split at h2
  · subst_vars; rfl
  · have := (T.rng l k h2).2; have := h1.1; omega
  · have := (T.rng j k h1).2; have := h2.1; omega
  · exact T.dj j l k h1 h2

theorem TwT.a0 (T : TwT w2 M mv L x Z W) : TwT w2 M mv (upd L 0) (updv x 20 mv) Z W :=
  ⟨T.bl, T.rng, T.dj, (fun _ => rfl), T.p2, T.p1, T.p3, T.p4, T.p5, T.e6, T.e7⟩
theorem TwT.a2 (T : TwT w2 M mv L x Z W) : TwT w2 M mv (upd L 2) (updv x 22 mv) Z W :=
  ⟨T.bl, T.rng, T.dj, T.p0, (fun _ => rfl), T.p1, T.p3, T.p4, T.p5, T.e6, T.e7⟩

theorem TwT.a1 (T : TwT w2 M mv L x Z W) (h1 : L 1 = false) (hb : Below W.heap.size W W') (g : Got W' W.heap.size M (fun _ => True) v) : TwT w2 M mv (upd L 1) (updv x 21 v) (updZ Z 1 (New W W')) W' := by
  have h6 : L 6 = false := by
    cases h : L 6
    · rfl
    · have := (T.e6 h).1; rw [h1] at this; cases this
  refine ⟨T.bl.trans (hb.mono T.bl.size), twT_rng T hb 1, twT_dj T 1, T.p0, T.p2, fun _ => ?_, fun h => (T.p3 h).below hb, fun h => ?_, fun h => ?_, (fun h => by have h' : L 6 = true := h; rw [h6] at h'; cases h'), T.e7⟩
  · obtain ⟨xS, xH, xF, xL, kS, kH, kF, kL, e, r, -⟩ := g
    exact ⟨xS, xH, xF, xL, kS, kH, kF, kL, e, r.low T.bl.size, fun k hk => r.rows k hk⟩
  · obtain ⟨B, e, hz, i1, i2⟩ := T.p4 h
    exact ⟨B, e, hz, (fun h' => box_below (i1 h') hb), fun h' => by have h'' : L 6 = true := h'; rw [h6] at h''; cases h''⟩
  · obtain ⟨B, e, hz, i1, i2⟩ := T.p5 h
    exact ⟨B, e, hz, (fun h' => box_below (i1 h') hb), fun h' => box_below (i2 h') hb⟩
theorem TwT.a3 (T : TwT w2 M mv L x Z W) (h3 : L 3 = false) (hb : Below W.heap.size W W') (g : Got W' W.heap.size M (fun _ => True) v) : TwT w2 M mv (upd L 3) (updv x 23 v) (updZ Z 3 (New W W')) W' := by
  have h7 : L 7 = false := by
    cases h : L 7
    · rfl
    · have := (T.e7 h).1; rw [h3] at this; cases this
  refine ⟨T.bl.trans (hb.mono T.bl.size), twT_rng T hb 3, twT_dj T 3, T.p0, T.p2, fun h => (T.p1 h).below hb, fun _ => ?_, fun h => ?_, fun h => ?_, T.e6, (fun h => by have h' : L 7 = true := h; rw [h7] at h'; cases h')⟩
  · obtain ⟨xS, xH, xF, xL, kS, kH, kF, kL, e, r, -⟩ := g
    exact ⟨xS, xH, xF, xL, kS, kH, kF, kL, e, r.low T.bl.size, fun k hk => r.rows k hk⟩
  · obtain ⟨B, e, hz, i1, i2⟩ := T.p4 h
    exact ⟨B, e, hz, (fun h' => box_below (i1 h') hb), fun h' => box_below (i2 h') hb⟩
  · obtain ⟨B, e, hz, i1, i2⟩ := T.p5 h
    exact ⟨B, e, hz, (fun h' => box_below (i1 h') hb), fun h' => by have h'' : L 7 = true := h'; rw [h7] at h''; cases h''⟩
theorem TwT.a4 (T : TwT w2 M mv L x Z W) (h4 : L 4 = false) : TwT w2 M mv (upd L 4) (updv x 7 (.pointer (some ⟨W.heap.size, 0, none⟩))) (updZ Z 4 (New W (W.alloc zeroTw))) (W.alloc zeroTw) := by
  have hb := one_below W zeroTw
  have h6 : L 6 = false := by
    cases h : L 6
    · rfl
    · have := (T.e6 h).2; rw [h4] at this; cases this
  refine ⟨T.bl.trans (hb.mono T.bl.size), twT_rng T hb 4, twT_dj T 4, T.p0, T.p2, fun h => (T.p1 h).below hb, fun h => (T.p3 h).below hb, fun _ => ?_, fun h => ?_, (fun h => by have h' : L 6 = true := h; rw [h6] at h'; cases h'), T.e7⟩
  · exact ⟨W.heap.size, rfl, ⟨Nat.le_refl _, lt_of_block (heap_alloc_new W zeroTw)⟩, (fun _ => heap_alloc_new W zeroTw), fun h' => by have h'' : L 6 = true := h'; rw [h6] at h''; cases h''⟩
  · obtain ⟨B, e, hz, i1, i2⟩ := T.p5 h
    exact ⟨B, e, hz, (fun h' => box_below (i1 h') hb), fun h' => box_below (i2 h') hb⟩
theorem TwT.a5 (T : TwT w2 M mv L x Z W) (h5 : L 5 = false) : TwT w2 M mv (upd L 5) (updv x 8 (.pointer (some ⟨W.heap.size, 0, none⟩))) (updZ Z 5 (New W (W.alloc zeroTw))) (W.alloc zeroTw) := by
  have hb := one_below W zeroTw
  have h7 : L 7 = false := by
    cases h : L 7
    · rfl
    · have := (T.e7 h).2; rw [h5] at this; cases this
  refine ⟨T.bl.trans (hb.mono T.bl.size), twT_rng T hb 5, twT_dj T 5, T.p0, T.p2, fun h => (T.p1 h).below hb, fun h => (T.p3 h).below hb, fun h => ?_, fun _ => ?_, T.e6, (fun h => by have h' : L 7 = true := h; rw [h7] at h'; cases h')⟩
  · obtain ⟨B, e, hz, i1, i2⟩ := T.p4 h
    exact ⟨B, e, hz, (fun h' => box_below (i1 h') hb), fun h' => box_below (i2 h') hb⟩
  · exact ⟨W.heap.size, rfl, ⟨Nat.le_refl _, lt_of_block (heap_alloc_new W zeroTw)⟩, (fun _ => heap_alloc_new W zeroTw), fun h' => by have h'' : L 7 = true := h'; rw [h7] at h''; cases h''⟩


theorem TwT.a6 {B : Nat} {v0 v1 v2 v3 v4 : Value} (T : TwT w2 M mv L x Z W) (g1 : L 1 = true) (g4 : L 4 = true) (h6 : L 6 = false) (hB : x 7 = .pointer (some ⟨B, 0, none⟩)) (hv : x 21 = .agg #[v0, v1, v2, v3, v4]) : TwT w2 M mv (upd L 6) x Z (set5 W B v0 v1 v2 v3 v4) := by
  obtain ⟨B', e, hz, i1, -⟩ := T.p4 g4
  rw [hB] at e
  injection e with e; injection e with e; injection e with e
  subst e
  have hz0 := i1 h6
  refine ⟨T.bl.trans (tw_below (T.rng 4 B hz).1 _ _ _ _ _), fun i k h => by rw [tw_size]; exact T.rng i k h, T.dj, T.p0, T.p2, fun h => (T.p1 h).set5 hz0 _ _ _ _ _, fun h => (T.p3 h).set5 hz0 _ _ _ _ _, fun _ => ?_, fun h => ?_, fun _ => ⟨g1, g4⟩, T.e7⟩
  · refine ⟨B, hB, hz, (fun h => by cases h), fun _ => ?_⟩
    rw [hv]
    exact set5_block hz0 _ _ _ _ _
  · obtain ⟨B5, e5, hz5, j1, j2⟩ := T.p5 h
    have hne : B5 ≠ B := by rintro rfl; have := T.dj 4 5 _ hz hz5; omega
    exact ⟨B5, e5, hz5, (fun h' => (tw_other hne _ _ _ _ _).trans (j1 h')), fun h' => (tw_other hne _ _ _ _ _).trans (j2 h')⟩
theorem TwT.a7 {B : Nat} {v0 v1 v2 v3 v4 : Value} (T : TwT w2 M mv L x Z W) (g3 : L 3 = true) (g5 : L 5 = true) (h7 : L 7 = false) (hB : x 8 = .pointer (some ⟨B, 0, none⟩)) (hv : x 23 = .agg #[v0, v1, v2, v3, v4]) : TwT w2 M mv (upd L 7) x Z (set5 W B v0 v1 v2 v3 v4) := by
  obtain ⟨B', e, hz, i1, -⟩ := T.p5 g5
  rw [hB] at e
  injection e with e; injection e with e; injection e with e
  subst e
  have hz0 := i1 h7
  refine ⟨T.bl.trans (tw_below (T.rng 5 B hz).1 _ _ _ _ _), fun i k h => by rw [tw_size]; exact T.rng i k h, T.dj, T.p0, T.p2, fun h => (T.p1 h).set5 hz0 _ _ _ _ _, fun h => (T.p3 h).set5 hz0 _ _ _ _ _, fun h => ?_, fun _ => ?_, T.e6, fun _ => ⟨g3, g5⟩⟩
  · obtain ⟨B5, e5, hz5, j1, j2⟩ := T.p4 h
    have hne : B5 ≠ B := by rintro rfl; have := T.dj 4 5 _ hz5 hz; omega
    exact ⟨B5, e5, hz5, (fun h' => (tw_other hne _ _ _ _ _).trans (j1 h')), fun h' => (tw_other hne _ _ _ _ _).trans (j2 h')⟩
  · refine ⟨B, hB, hz, (fun h => by cases h), fun _ => ?_⟩
    rw [hv]
    exact set5_block hz0 _ _ _ _ _

/- In the end there are two boxes, with a memory of one's own in each, apart from each other. -/
theorem TwT.fin (T : TwT w2 M mv L x Z W) (g6 : L 6 = true) (g7 : L 7 = true)
    (m1 : M.slots.length * 48 ≤ 140737488351232) (m2 : M.heads.length * 8 ≤ 140737488351232) (m3 : M.free.length * 8 ≤ 140737488351000) (m4 : M.locks.length * 8 ≤ 140737488351232) :
    ∃ Bx By xS xH xF xL kS kH kF kL yS yH yF yL jS jH jF jL, x 7 = .pointer (some ⟨Bx, 0, none⟩) ∧ x 8 = .pointer (some ⟨By, 0, none⟩) ∧ Mine W Bx w2.heap.size xS xH xF xL kS kH kF kL M ∧ Mine W By w2.heap.size yS yH yF yL jS jH jF jL M ∧
      (∀ k, Foot Bx xS xH xF xL k → w2.heap.size ≤ k) ∧ (∀ k, Foot By yS yH yF yL k → w2.heap.size ≤ k ∧ ¬ Foot Bx xS xH xF xL k) := by
  obtain ⟨g1, g4⟩ := T.e6 g6
  obtain ⟨g3, g5⟩ := T.e7 g7
  obtain ⟨xS, xH, xF, xL, kS, kH, kF, kL, ex, rx, hx⟩ := T.p1 g1
  obtain ⟨yS, yH, yF, yL, jS, jH, jF, jL, ey, ry, hy⟩ := T.p3 g3
  obtain ⟨Bx, e5, z5, -, b5⟩ := T.p4 g4
  obtain ⟨By, e6, z6, -, b6⟩ := T.p5 g5
  have b5' := b5 g6
  have b6' := b6 g7
  rw [ex] at b5'
  rw [ey] at b6'
  have fx : ∀ k, Foot Bx xS xH xF xL k → Z 4 k ∨ Z 1 k := by
    rintro k (rfl | h)
    · exact .inl z5
    · exact .inr (hx k h)
  have fy : ∀ k, Foot By yS yH yF yL k → Z 5 k ∨ Z 3 k := by
    rintro k (rfl | h)
    · exact .inl z6
    · exact .inr (hy k h)
  refine ⟨Bx, By, xS, xH, xF, xL, kS, kH, kF, kL, yS, yH, yF, yL, jS, jH, jF, jL, e5, e6, ⟨b5', rx, m1, m2, m3, m4⟩, ⟨b6', ry, m1, m2, m3, m4⟩, fun k h => ?_, fun k h => ⟨?_, fun h' => ?_⟩⟩
  · rcases fx k h with h | h
    · exact (T.rng _ k h).1
    · exact (T.rng _ k h).1
  · rcases fy k h with h | h
    · exact (T.rng _ k h).1
    · exact (T.rng _ k h).1
  · rcases fy k h with h | h <;> rcases fx k h' with h' | h'
    · have := T.dj _ _ k h h'; omega
    · have := T.dj _ _ k h h'; omega
    · have := T.dj _ _ k h h'; omega
    · have := T.dj _ _ k h h'; omega
end

/- What a region's walk carries: what has come up, and what no operation changes. -/
def JtT (w2 : World) (M : Mm) (mv : Value) (b : Nat → Value) (listed : Array Bool) (x : Nat → Value) (W : World) : Prop :=
  listed.size = 8 ∧ (∀ k, k ∉ [7, 8, 20, 21, 22, 23] → x k = b k) ∧ ∃ Z, TwT w2 M mv (fun i => listed.getD i false) x Z W
theorem JtT.next {w2 W W' : World} {M : Mm} {mv : Value} {b : Nat → Value} {listed : Array Bool} {x x' : Nat → Value} {Z : Nat → Nat → Prop} (J : JtT w2 M mv b listed x W) (i : Nat) (hi : i < 8) (hx : ∀ k, k ∉ [7, 8, 20, 21, 22, 23] → x' k = x k) (T : TwT w2 M mv (upd (fun k => listed.getD k false) i) x' Z W') : JtT w2 M mv b (listed.setIfInBounds i true) x' W' := by
  refine ⟨by simpa using J.1, fun k hk => (hx k hk).trans (J.2.1 k hk), Z, ?_⟩
  have e : (fun k => (listed.setIfInBounds i true).getD k false) = upd (fun k => listed.getD k false) i := by
    funext k
    have := J.1
    by_cases hk : k = i
    · subst hk
      simp [upd, Array.getD_eq_getD_getElem?, J.1, hi]
    · have hk' : ¬ i = k := fun e => hk e.symm
      simp [upd, hk, Array.getD_eq_getD_getElem?, hk']
  rw [e]
  exact T
theorem updv_outT {x : Nat → Value} {d : Nat} {v : Value} (hd : d ∈ [7, 8, 20, 21, 22, 23]) : ∀ k, k ∉ [7, 8, 20, 21, 22, 23] → updv x d v k = x k := by
  intro k hk
  unfold updv
  rw [if_neg]
  rintro rfl
  exact hk hd

end Go.Proofs.Ytdbilofhcadmoab.mm

/- Two steps in one row of the program, one on each memory, and what they answer held against each other: in whatever order the parts are reckoned. -/
namespace Go.Proofs.Ytdbilofhcadmoab.mm
open Go.ChangeShapes Go.WideShapes Go.ChangeAt Go.RowKit Go.Joins
set_option maxRecDepth 100000
set_option linter.unusedVariables false

def fval (g : Fr) (a : Option Addr) (c : Nat) : Value := .agg #[.int .i64 g.c.kind, .int .i64 g.c.a, .int .i64 g.c.b, .int .i64 g.c.time, .int .i64 g.c.bk, .int .i64 g.c.slot, .int .i64 g.pl, .int .i64 g.cur, .int .i64 g.prev, .int .i64 g.slot, .int .i64 g.n, .slice a g.keys.length c, .bool g.done, .int .i64 g.e]

structure Ts (w : World) (Lb : List (Nat × Obj)) (fv : Value) (g : Fr) (M N : Mm) (Bx By lo : Nat) (L : Nat → Bool) (x : Nat → Value) (Zx Zy : Nat → Prop) (W : World) : Prop where
  ev : Env w W Lb []
  hx : Has W Bx lo Zx (if L 1 then N else M)
  hy : Has W By lo Zy (if L 3 then N else M)
  rx : ∀ k, Zx k → w.heap.size + 2 ≤ k ∧ k < W.heap.size
  ry : ∀ k, Zy k → w.heap.size + 2 ≤ k ∧ k < W.heap.size
  dj : ∀ k, Zx k → ¬ Zy k
  p0 : L 0 = true → x 22 = fv
  p2 : L 2 = true → x 24 = fv
  p1 : L 1 = true → ∃ a c, x 23 = fval g a c ∧ KRow W a c g.keys ∧ (L 3 = false → ∀ ad, a = some ad → ¬ Zy ad.block)
  p3 : L 3 = true → ∃ a c, x 25 = fval g a c ∧ KRow W a c g.keys
  p4 : L 4 = true → x 26 = .bool true
  p5 : L 5 = true → x 27 = .bool true
  p6 : L 6 = true → Ans 0 W (x 28) N
  p7 : L 7 = true → Ans 0 W (x 29) N
  p8 : L 8 = true → x 30 = .bool true
  p9 : L 9 = true → x 31 = .bool true
  p10 : L 10 = true → x 4 = .bool true
  e3 : L 3 = true → L 1 = true
  e4 : L 4 = true → L 3 = true
  e5 : L 5 = true → L 4 = true
  e6 : L 6 = true → L 5 = true
  e7 : L 7 = true → L 5 = true

section
variable {w W W' : World} {Lb : List (Nat × Obj)} {fv v : Value} {g : Fr} {M N : Mm} {Bx By lo : Nat} {L : Nat → Bool} {x : Nat → Value} {Zx Zy : Nat → Prop}

theorem Ts.start (E : Env w W Lb []) (hx : Has W Bx lo Zx M) (hy : Has W By lo Zy M) (rx : ∀ k, Zx k → w.heap.size + 2 ≤ k ∧ k < W.heap.size) (ry : ∀ k, Zy k → w.heap.size + 2 ≤ k ∧ k < W.heap.size) (dj : ∀ k, Zx k → ¬ Zy k) : Ts w Lb fv g M N Bx By lo (fun _ => false) x Zx Zy W :=
  ⟨E, hx, hy, rx, ry, dj, (fun h => by cases h), (fun h => by cases h), (fun h => by cases h), (fun h => by cases h), (fun h => by cases h), (fun h => by cases h), (fun h => by cases h), (fun h => by cases h), (fun h => by cases h), (fun h => by cases h), (fun h => by cases h), (fun h => by cases h), (fun h => by cases h), (fun h => by cases h), (fun h => by cases h), (fun h => by cases h)⟩

theorem Ts.below (T : Ts w Lb fv g M N Bx By lo L x Zx Zy W) (hb : Below W.heap.size W W') : Ts w Lb fv g M N Bx By lo L x Zx Zy W' :=
  ⟨T.ev.below hb, T.hx.below hb, T.hy.below hb, (fun k h => ⟨(T.rx k h).1, Nat.lt_of_lt_of_le (T.rx k h).2 hb.size⟩), (fun k h => ⟨(T.ry k h).1, Nat.lt_of_lt_of_le (T.ry k h).2 hb.size⟩), T.dj, T.p0, T.p2,
    (fun h => by obtain ⟨a, c, e, r, z⟩ := T.p1 h; exact ⟨a, c, e, r.below hb, z⟩), (fun h => by obtain ⟨a, c, e, r⟩ := T.p3 h; exact ⟨a, c, e, r.below hb⟩), T.p4, T.p5, (fun h => (T.p6 h).below hb), (fun h => (T.p7 h).below hb), T.p8, T.p9, T.p10, T.e3, T.e4, T.e5, T.e6, T.e7⟩

theorem Ts.b0 (T : Ts w Lb fv g M N Bx By lo L x Zx Zy W) : Ts w Lb fv g M N Bx By lo (upd L 0) (updv x 22 fv) Zx Zy W :=
  ⟨T.ev, T.hx, T.hy, T.rx, T.ry, T.dj, (fun _ => rfl), T.p2, T.p1, T.p3, T.p4, T.p5, T.p6, T.p7, T.p8, T.p9, T.p10, T.e3, T.e4, T.e5, T.e6, T.e7⟩
theorem Ts.b2 (T : Ts w Lb fv g M N Bx By lo L x Zx Zy W) : Ts w Lb fv g M N Bx By lo (upd L 2) (updv x 24 fv) Zx Zy W :=
  ⟨T.ev, T.hx, T.hy, T.rx, T.ry, T.dj, T.p0, (fun _ => rfl), T.p1, T.p3, T.p4, T.p5, T.p6, T.p7, T.p8, T.p9, T.p10, T.e3, T.e4, T.e5, T.e6, T.e7⟩
theorem Ts.b4 (T : Ts w Lb fv g M N Bx By lo L x Zx Zy W) (h3 : L 3 = true) : Ts w Lb fv g M N Bx By lo (upd L 4) (updv x 26 (.bool true)) Zx Zy W :=
  ⟨T.ev, T.hx, T.hy, T.rx, T.ry, T.dj, T.p0, T.p2, T.p1, T.p3, (fun _ => rfl), T.p5, T.p6, T.p7, T.p8, T.p9, T.p10, T.e3, (fun _ => h3), (fun _ => rfl), T.e6, T.e7⟩
theorem Ts.b5 (T : Ts w Lb fv g M N Bx By lo L x Zx Zy W) (h4 : L 4 = true) : Ts w Lb fv g M N Bx By lo (upd L 5) (updv x 27 (.bool true)) Zx Zy W :=
  ⟨T.ev, T.hx, T.hy, T.rx, T.ry, T.dj, T.p0, T.p2, T.p1, T.p3, T.p4, (fun _ => rfl), T.p6, T.p7, T.p8, T.p9, T.p10, T.e3, T.e4, (fun _ => h4), (fun _ => rfl), (fun _ => rfl)⟩
theorem Ts.b6 (T : Ts w Lb fv g M N Bx By lo L x Zx Zy W) (h5 : L 5 = true) (h : Ans 0 W v N) : Ts w Lb fv g M N Bx By lo (upd L 6) (updv x 28 v) Zx Zy W :=
  ⟨T.ev, T.hx, T.hy, T.rx, T.ry, T.dj, T.p0, T.p2, T.p1, T.p3, T.p4, T.p5, (fun _ => h), T.p7, T.p8, T.p9, T.p10, T.e3, T.e4, T.e5, (fun _ => h5), T.e7⟩
theorem Ts.b7 (T : Ts w Lb fv g M N Bx By lo L x Zx Zy W) (h5 : L 5 = true) (h : Ans 0 W v N) : Ts w Lb fv g M N Bx By lo (upd L 7) (updv x 29 v) Zx Zy W :=
  ⟨T.ev, T.hx, T.hy, T.rx, T.ry, T.dj, T.p0, T.p2, T.p1, T.p3, T.p4, T.p5, T.p6, (fun _ => h), T.p8, T.p9, T.p10, T.e3, T.e4, T.e5, T.e6, (fun _ => h5)⟩
theorem Ts.b8 (T : Ts w Lb fv g M N Bx By lo L x Zx Zy W) : Ts w Lb fv g M N Bx By lo (upd L 8) (updv x 30 (.bool true)) Zx Zy W :=
  ⟨T.ev, T.hx, T.hy, T.rx, T.ry, T.dj, T.p0, T.p2, T.p1, T.p3, T.p4, T.p5, T.p6, T.p7, (fun _ => rfl), T.p9, T.p10, T.e3, T.e4, T.e5, T.e6, T.e7⟩
theorem Ts.b9 (T : Ts w Lb fv g M N Bx By lo L x Zx Zy W) : Ts w Lb fv g M N Bx By lo (upd L 9) (updv x 31 (.bool true)) Zx Zy W :=
  ⟨T.ev, T.hx, T.hy, T.rx, T.ry, T.dj, T.p0, T.p2, T.p1, T.p3, T.p4, T.p5, T.p6, T.p7, T.p8, (fun _ => rfl), T.p10, T.e3, T.e4, T.e5, T.e6, T.e7⟩
theorem Ts.b10 (T : Ts w Lb fv g M N Bx By lo L x Zx Zy W) : Ts w Lb fv g M N Bx By lo (upd L 10) (updv x 4 (.bool true)) Zx Zy W :=
  ⟨T.ev, T.hx, T.hy, T.rx, T.ry, T.dj, T.p0, T.p2, T.p1, T.p3, T.p4, T.p5, T.p6, T.p7, T.p8, T.p9, (fun _ => rfl), T.e3, T.e4, T.e5, T.e6, T.e7⟩

def Zn (W W' : World) (Z : Nat → Prop) (k : Nat) : Prop := (Z k ∨ W.heap.size ≤ k) ∧ k < W'.heap.size

theorem Ts.b1 {aK a : Option Addr} {c : Nat} {F : Nat → Prop} (T : Ts w Lb fv g M N Bx By lo L x Zx Zy W) (h1 : L 1 = false) (hLb : ∀ p ∈ Lb, p.1 < w.heap.size + 2) (hlow : ∀ ad, aK = some ad → ad.block < w.heap.size)
    (hF : ∀ k, F k → Zx k) (kr : KRow W' a c g.keys) (hi : ∀ ad, a = some ad → aK = some ad ∨ W.heap.size ≤ ad.block) (hh : Has W' Bx lo (Up W F) N) (hf : Fine W W' F) :
    Ts w Lb fv g M N Bx By lo (upd L 1) (updv x 23 (fval g a c)) (Zn W W' Zx) Zy W' := by
  have hno : ∀ {k}, L k = true → L k = false → False := fun h h' => by rw [h] at h'; cases h'
  have h3 : L 3 = true → False := fun h => hno (T.e3 h) h1
  have h5 : L 5 = true → False := fun h => h3 (T.e4 (T.e5 h))
  have hf' : Fine W W' Zx := hf.mono hF
  have hwW : w.heap.size + 2 ≤ W.heap.size := by
    obtain ⟨_, _, _, _, _, _, _, _, m, hft⟩ := T.hx
    have := T.rx Bx (hft Bx (.inl rfl))
    omega
  refine ⟨T.ev.fine hf' (fun k h => by have := (T.rx k h).1; omega) (fun p hp h => by have := (T.rx _ h).1; have := hLb p hp; omega), ?_, T.hy.fine hf' (fun k _ h h' => T.dj k h' h), ?_, (fun k h => ⟨(T.ry k h).1, Nat.lt_of_lt_of_le (T.ry k h).2 hf.size⟩), ?_, T.p0, T.p2, (fun _ => ⟨a, c, rfl, kr, fun _ ad h h' => ?_⟩), (fun h => (h3 h).elim), T.p4, T.p5, (fun h => (h5 (T.e6 h)).elim), (fun h => (h5 (T.e7 h)).elim), T.p8, T.p9, T.p10, (fun h => rfl), T.e4, T.e5, T.e6, T.e7⟩
  · exact hh.mono fun k hk h => ⟨h.imp (hF k) id, hk⟩
  · rintro k ⟨h | h, h'⟩
    · exact ⟨(T.rx k h).1, h'⟩
    · exact ⟨by omega, h'⟩
  · rintro k ⟨h | h, -⟩ h'
    · exact T.dj k h h'
    · have := (T.ry k h').2; omega
  · rcases hi ad h with h | h
    · have := hlow ad h; have := (T.ry _ h').1; omega
    · have := (T.ry _ h').2; omega

theorem Ts.b3 {a : Option Addr} {c : Nat} {F : Nat → Prop} (T : Ts w Lb fv g M N Bx By lo L x Zx Zy W) (h3 : L 3 = false) (h1 : L 1 = true) (hLb : ∀ p ∈ Lb, p.1 < w.heap.size + 2)
    (hF : ∀ k, F k → Zy k) (kr : KRow W' a c g.keys) (hh : Has W' By lo (Up W F) N) (hf : Fine W W' F) :
    Ts w Lb fv g M N Bx By lo (upd L 3) (updv x 25 (fval g a c)) Zx (Zn W W' Zy) W' := by
  have hno : ∀ {k}, L k = true → L k = false → False := fun h h' => by rw [h] at h'; cases h'
  have h4 : L 4 = true → False := fun h => hno (T.e4 h) h3
  have h5 : L 5 = true → False := fun h => h4 (T.e5 h)
  have hf' : Fine W W' Zy := hf.mono hF
  have hwW : w.heap.size + 2 ≤ W.heap.size := by
    obtain ⟨_, _, _, _, _, _, _, _, m, hft⟩ := T.hx
    have := T.rx Bx (hft Bx (.inl rfl))
    omega
  refine ⟨T.ev.fine hf' (fun k h => by have := (T.ry k h).1; omega) (fun p hp h => by have := (T.ry _ h).1; have := hLb p hp; omega), T.hx.fine hf' (fun k _ h h' => T.dj k h h'), ?_, (fun k h => ⟨(T.rx k h).1, Nat.lt_of_lt_of_le (T.rx k h).2 hf.size⟩), ?_, ?_, T.p0, T.p2, (fun h => ?_), (fun _ => ⟨a, c, rfl, kr⟩), T.p4, T.p5, (fun h => (h5 (T.e6 h)).elim), (fun h => (h5 (T.e7 h)).elim), T.p8, T.p9, T.p10, (fun h => h1), (fun h => rfl), T.e5, T.e6, T.e7⟩
  · exact hh.mono fun k hk h => ⟨h.imp (hF k) id, hk⟩
  · rintro k ⟨h | h, h'⟩
    · exact ⟨(T.ry k h).1, h'⟩
    · exact ⟨by omega, h'⟩
  · rintro k h' ⟨h | h, -⟩
    · exact T.dj k h' h
    · have := (T.rx k h').2; omega
  · obtain ⟨a', c', e, r, z⟩ := T.p1 h
    exact ⟨a', c', e, r.fine hf' (z h3), fun h' => by cases h'⟩
theorem Ts.hx0 (T : Ts w Lb fv g M N Bx By lo L x Zx Zy W) (h : L 1 = false) : Has W Bx lo Zx M := by have := T.hx; rwa [h, if_neg (by simp)] at this
theorem Ts.hy0 (T : Ts w Lb fv g M N Bx By lo L x Zx Zy W) (h : L 3 = false) : Has W By lo Zy M := by have := T.hy; rwa [h, if_neg (by simp)] at this
theorem Ts.hx1 (T : Ts w Lb fv g M N Bx By lo L x Zx Zy W) (h : L 1 = true) : Has W Bx lo Zx N := by have := T.hx; rwa [h, if_pos rfl] at this
theorem Ts.hy1 (T : Ts w Lb fv g M N Bx By lo L x Zx Zy W) (h : L 3 = true) : Has W By lo Zy N := by have := T.hy; rwa [h, if_pos rfl] at this
end
def Js (w : World) (Lb : List (Nat × Obj)) (fv : Value) (g : Fr) (M N : Mm) (Bx By lo : Nat) (b : Nat → Value) (listed : Array Bool) (x : Nat → Value) (W : World) : Prop :=
  listed.size = 11 ∧ (∀ k, k ∉ [4, 22, 23, 24, 25, 26, 27, 28, 29, 30, 31] → x k = b k) ∧ ∃ Zx Zy, Ts w Lb fv g M N Bx By lo (fun i => listed.getD i false) x Zx Zy W
theorem Js.next {w W W' : World} {Lb : List (Nat × Obj)} {fv : Value} {g : Fr} {M N : Mm} {Bx By lo : Nat} {b : Nat → Value} {listed : Array Bool} {x x' : Nat → Value} {Zx Zy : Nat → Prop} (J : Js w Lb fv g M N Bx By lo b listed x W) (i : Nat) (hi : i < 11) (hx : ∀ k, k ∉ [4, 22, 23, 24, 25, 26, 27, 28, 29, 30, 31] → x' k = x k) (T : Ts w Lb fv g M N Bx By lo (upd (fun k => listed.getD k false) i) x' Zx Zy W') : Js w Lb fv g M N Bx By lo b (listed.setIfInBounds i true) x' W' := by
  refine ⟨by simpa using J.1, fun k hk => (hx k hk).trans (J.2.1 k hk), Zx, Zy, ?_⟩
  have e : (fun k => (listed.setIfInBounds i true).getD k false) = upd (fun k => listed.getD k false) i := by
    funext k
    have := J.1
    by_cases hk : k = i
    · subst hk
      simp [upd, Array.getD_eq_getD_getElem?, J.1, hi]
    · have hk' : ¬ i = k := fun e => hk e.symm
      simp [upd, hk, Array.getD_eq_getD_getElem?, hk']
  rw [e]
  exact T
theorem updv_outs {x : Nat → Value} {d : Nat} {v : Value} (hd : d ∈ [4, 22, 23, 24, 25, 26, 27, 28, 29, 30, 31]) : ∀ k, k ∉ [4, 22, 23, 24, 25, 26, 27, 28, 29, 30, 31] → updv x d v k = x k := by
  intro k hk
  unfold updv
  rw [if_neg]
  rintro rfl
  exact hk hd

theorem wpOp_vals {P : Program} {ops : Array Oper} {Q : Exit → Act → World → Prop} {i : Nat} {o : Oper} {a : Act} {w w' : World} {v : Value} {K : Act → World → Prop} (hi : ops[i]? = some o) (hw : Region.wanted o (yielded ops a.tmps) = true)
    (hr : (execOp a.eval o).run P w = .ok (.value v) w') (h : K (a.put o.dst v) w') : wpOp P ops Q i K a w := by
  refine wpOp_step hi fun K' hK => ?_
  rw [if_pos hw]
  unfold Oper.wp
  rw [hr]
  exact hK _ _ h
theorem wpOp_ins {P : Program} {ops : Array Oper} {Q : Exit → Act → World → Prop} {i : Nat} {o : Oper} {a : Act} {w : World} {f : Nat} {args : Array Value} {K : Act → World → Prop} (hi : ops[i]? = some o) (hw : Region.wanted o (yielded ops a.tmps) = true)
    (hr : (execOp a.eval o).run P w = .ok (.enter f args) w) (h : Calls P f args w fun e w' => ∃ v, e = .returned v ∧ K (a.put o.dst v) w') : wpOp P ops Q i K a w := by
  refine wpOp_step hi fun K' hK => ?_
  rw [if_pos hw]
  unfold Oper.wp
  rw [hr]
  refine Calls.mono h ?_
  rintro e w' ⟨v, rfl, hv⟩
  exact hK _ _ hv
theorem wants {o : Oper} {ops : Array Oper} {tmps : Array Value} {k d : Nat} {b : Bool} (h : o.guard = some (k, b)) (hk : (ops[k]?).bind (·.dst) = some d) (ht : tmps[d]? = some (.bool b)) : Region.wanted o (yielded ops tmps) = true := by
  unfold Region.wanted yielded
  rw [h]
  simp [hk, ht]

end Go.Proofs.Ytdbilofhcadmoab.mm

/- Two steps in one row of the program, one on each memory, as in Steps: steps of a task that has a number. -/
namespace Go.Proofs.Ytdbilofhcadmoab.mm
open Go.ChangeShapes Go.WideShapes Go.ChangeAt Go.RowKit Go.Joins
set_option maxRecDepth 100000
set_option linter.unusedVariables false

structure TsT (w : World) (Lb : List (Nat × Obj)) (fv : Value) (g : Fr) (M N : Mm) (Bx By lo : Nat) (L : Nat → Bool) (x : Nat → Value) (Zx Zy : Nat → Prop) (W : World) : Prop where
  ev : Env w W Lb []
  hx : Has W Bx lo Zx (if L 2 then N else M)
  hy : Has W By lo Zy (if L 5 then N else M)
  rx : ∀ k, Zx k → w.heap.size + 2 ≤ k ∧ k < W.heap.size
  ry : ∀ k, Zy k → w.heap.size + 2 ≤ k ∧ k < W.heap.size
  dj : ∀ k, Zx k → ¬ Zy k
  p0 : L 0 = true → x 24 = fv
  p2 : L 3 = true → x 27 = fv
  p1 : L 2 = true → ∃ a c, x 26 = fval g a c ∧ KRow W a c g.keys ∧ (L 5 = false → ∀ ad, a = some ad → ¬ Zy ad.block)
  p3 : L 5 = true → ∃ a c, x 29 = fval g a c ∧ KRow W a c g.keys
  p4 : L 6 = true → x 30 = .bool true
  p5 : L 7 = true → x 31 = .bool true
  p6 : L 8 = true → Ans 0 W (x 32) N
  p7 : L 9 = true → Ans 0 W (x 33) N
  p8 : L 10 = true → x 34 = .bool true
  p9 : L 11 = true → x 35 = .bool true
  p10 : L 12 = true → x 6 = .bool true
  e3 : L 5 = true → L 2 = true
  e4 : L 6 = true → L 5 = true
  e5 : L 7 = true → L 6 = true
  e6 : L 8 = true → L 7 = true
  e7 : L 9 = true → L 7 = true

section
variable {w W W' : World} {Lb : List (Nat × Obj)} {fv v : Value} {g : Fr} {M N : Mm} {Bx By lo : Nat} {L : Nat → Bool} {x : Nat → Value} {Zx Zy : Nat → Prop}

theorem TsT.start (E : Env w W Lb []) (hx : Has W Bx lo Zx M) (hy : Has W By lo Zy M) (rx : ∀ k, Zx k → w.heap.size + 2 ≤ k ∧ k < W.heap.size) (ry : ∀ k, Zy k → w.heap.size + 2 ≤ k ∧ k < W.heap.size) (dj : ∀ k, Zx k → ¬ Zy k) : TsT w Lb fv g M N Bx By lo (fun _ => false) x Zx Zy W :=
  ⟨E, hx, hy, rx, ry, dj, (fun h => by cases h), (fun h => by cases h), (fun h => by cases h), (fun h => by cases h), (fun h => by cases h), (fun h => by cases h), (fun h => by cases h), (fun h => by cases h), (fun h => by cases h), (fun h => by cases h), (fun h => by cases h), (fun h => by cases h), (fun h => by cases h), (fun h => by cases h), (fun h => by cases h), (fun h => by cases h)⟩

theorem TsT.below (T : TsT w Lb fv g M N Bx By lo L x Zx Zy W) (hb : Below W.heap.size W W') : TsT w Lb fv g M N Bx By lo L x Zx Zy W' :=
  ⟨T.ev.below hb, T.hx.below hb, T.hy.below hb, (fun k h => ⟨(T.rx k h).1, Nat.lt_of_lt_of_le (T.rx k h).2 hb.size⟩), (fun k h => ⟨(T.ry k h).1, Nat.lt_of_lt_of_le (T.ry k h).2 hb.size⟩), T.dj, T.p0, T.p2,
    (fun h => by obtain ⟨a, c, e, r, z⟩ := T.p1 h; exact ⟨a, c, e, r.below hb, z⟩), (fun h => by obtain ⟨a, c, e, r⟩ := T.p3 h; exact ⟨a, c, e, r.below hb⟩), T.p4, T.p5, (fun h => (T.p6 h).below hb), (fun h => (T.p7 h).below hb), T.p8, T.p9, T.p10, T.e3, T.e4, T.e5, T.e6, T.e7⟩

theorem TsT.b0 (T : TsT w Lb fv g M N Bx By lo L x Zx Zy W) : TsT w Lb fv g M N Bx By lo (upd L 0) (updv x 24 fv) Zx Zy W :=
  ⟨T.ev, T.hx, T.hy, T.rx, T.ry, T.dj, (fun _ => rfl), T.p2, T.p1, T.p3, T.p4, T.p5, T.p6, T.p7, T.p8, T.p9, T.p10, T.e3, T.e4, T.e5, T.e6, T.e7⟩
theorem TsT.b2 (T : TsT w Lb fv g M N Bx By lo L x Zx Zy W) : TsT w Lb fv g M N Bx By lo (upd L 3) (updv x 27 fv) Zx Zy W :=
  ⟨T.ev, T.hx, T.hy, T.rx, T.ry, T.dj, T.p0, (fun _ => rfl), T.p1, T.p3, T.p4, T.p5, T.p6, T.p7, T.p8, T.p9, T.p10, T.e3, T.e4, T.e5, T.e6, T.e7⟩
theorem TsT.b4 (T : TsT w Lb fv g M N Bx By lo L x Zx Zy W) (h3 : L 5 = true) : TsT w Lb fv g M N Bx By lo (upd L 6) (updv x 30 (.bool true)) Zx Zy W :=
  ⟨T.ev, T.hx, T.hy, T.rx, T.ry, T.dj, T.p0, T.p2, T.p1, T.p3, (fun _ => rfl), T.p5, T.p6, T.p7, T.p8, T.p9, T.p10, T.e3, (fun _ => h3), (fun _ => rfl), T.e6, T.e7⟩
theorem TsT.b5 (T : TsT w Lb fv g M N Bx By lo L x Zx Zy W) (h4 : L 6 = true) : TsT w Lb fv g M N Bx By lo (upd L 7) (updv x 31 (.bool true)) Zx Zy W :=
  ⟨T.ev, T.hx, T.hy, T.rx, T.ry, T.dj, T.p0, T.p2, T.p1, T.p3, T.p4, (fun _ => rfl), T.p6, T.p7, T.p8, T.p9, T.p10, T.e3, T.e4, (fun _ => h4), (fun _ => rfl), (fun _ => rfl)⟩
theorem TsT.b6 (T : TsT w Lb fv g M N Bx By lo L x Zx Zy W) (h5 : L 7 = true) (h : Ans 0 W v N) : TsT w Lb fv g M N Bx By lo (upd L 8) (updv x 32 v) Zx Zy W :=
  ⟨T.ev, T.hx, T.hy, T.rx, T.ry, T.dj, T.p0, T.p2, T.p1, T.p3, T.p4, T.p5, (fun _ => h), T.p7, T.p8, T.p9, T.p10, T.e3, T.e4, T.e5, (fun _ => h5), T.e7⟩
theorem TsT.b7 (T : TsT w Lb fv g M N Bx By lo L x Zx Zy W) (h5 : L 7 = true) (h : Ans 0 W v N) : TsT w Lb fv g M N Bx By lo (upd L 9) (updv x 33 v) Zx Zy W :=
  ⟨T.ev, T.hx, T.hy, T.rx, T.ry, T.dj, T.p0, T.p2, T.p1, T.p3, T.p4, T.p5, T.p6, (fun _ => h), T.p8, T.p9, T.p10, T.e3, T.e4, T.e5, T.e6, (fun _ => h5)⟩
theorem TsT.b8 (T : TsT w Lb fv g M N Bx By lo L x Zx Zy W) : TsT w Lb fv g M N Bx By lo (upd L 10) (updv x 34 (.bool true)) Zx Zy W :=
  ⟨T.ev, T.hx, T.hy, T.rx, T.ry, T.dj, T.p0, T.p2, T.p1, T.p3, T.p4, T.p5, T.p6, T.p7, (fun _ => rfl), T.p9, T.p10, T.e3, T.e4, T.e5, T.e6, T.e7⟩
theorem TsT.b9 (T : TsT w Lb fv g M N Bx By lo L x Zx Zy W) : TsT w Lb fv g M N Bx By lo (upd L 11) (updv x 35 (.bool true)) Zx Zy W :=
  ⟨T.ev, T.hx, T.hy, T.rx, T.ry, T.dj, T.p0, T.p2, T.p1, T.p3, T.p4, T.p5, T.p6, T.p7, T.p8, (fun _ => rfl), T.p10, T.e3, T.e4, T.e5, T.e6, T.e7⟩
theorem TsT.b10 (T : TsT w Lb fv g M N Bx By lo L x Zx Zy W) : TsT w Lb fv g M N Bx By lo (upd L 12) (updv x 6 (.bool true)) Zx Zy W :=
  ⟨T.ev, T.hx, T.hy, T.rx, T.ry, T.dj, T.p0, T.p2, T.p1, T.p3, T.p4, T.p5, T.p6, T.p7, T.p8, T.p9, (fun _ => rfl), T.e3, T.e4, T.e5, T.e6, T.e7⟩


theorem TsT.b1 {aK a : Option Addr} {c : Nat} {F : Nat → Prop} (T : TsT w Lb fv g M N Bx By lo L x Zx Zy W) (h1 : L 2 = false) (hLb : ∀ p ∈ Lb, p.1 < w.heap.size + 2) (hlow : ∀ ad, aK = some ad → ad.block < w.heap.size)
    (hF : ∀ k, F k → Zx k) (kr : KRow W' a c g.keys) (hi : ∀ ad, a = some ad → aK = some ad ∨ W.heap.size ≤ ad.block) (hh : Has W' Bx lo (Up W F) N) (hf : Fine W W' F) :
    TsT w Lb fv g M N Bx By lo (upd L 2) (updv x 26 (fval g a c)) (Zn W W' Zx) Zy W' := by
  have hno : ∀ {k}, L k = true → L k = false → False := fun h h' => by rw [h] at h'; cases h'
  have h3 : L 5 = true → False := fun h => hno (T.e3 h) h1
  have h5 : L 7 = true → False := fun h => h3 (T.e4 (T.e5 h))
  have hf' : Fine W W' Zx := hf.mono hF
  have hwW : w.heap.size + 2 ≤ W.heap.size := by
    obtain ⟨_, _, _, _, _, _, _, _, m, hft⟩ := T.hx
    have := T.rx Bx (hft Bx (.inl rfl))
    omega
  refine ⟨T.ev.fine hf' (fun k h => by have := (T.rx k h).1; omega) (fun p hp h => by have := (T.rx _ h).1; have := hLb p hp; omega), ?_, T.hy.fine hf' (fun k _ h h' => T.dj k h' h), ?_, (fun k h => ⟨(T.ry k h).1, Nat.lt_of_lt_of_le (T.ry k h).2 hf.size⟩), ?_, T.p0, T.p2, (fun _ => ⟨a, c, rfl, kr, fun _ ad h h' => ?_⟩), (fun h => (h3 h).elim), T.p4, T.p5, (fun h => (h5 (T.e6 h)).elim), (fun h => (h5 (T.e7 h)).elim), T.p8, T.p9, T.p10, (fun h => rfl), T.e4, T.e5, T.e6, T.e7⟩
  · exact hh.mono fun k hk h => ⟨h.imp (hF k) id, hk⟩
  · rintro k ⟨h | h, h'⟩
    · exact ⟨(T.rx k h).1, h'⟩
    · exact ⟨by omega, h'⟩
  · rintro k ⟨h | h, -⟩ h'
    · exact T.dj k h h'
    · have := (T.ry k h').2; omega
  · rcases hi ad h with h | h
    · have := hlow ad h; have := (T.ry _ h').1; omega
    · have := (T.ry _ h').2; omega

theorem TsT.b3 {a : Option Addr} {c : Nat} {F : Nat → Prop} (T : TsT w Lb fv g M N Bx By lo L x Zx Zy W) (h3 : L 5 = false) (h1 : L 2 = true) (hLb : ∀ p ∈ Lb, p.1 < w.heap.size + 2)
    (hF : ∀ k, F k → Zy k) (kr : KRow W' a c g.keys) (hh : Has W' By lo (Up W F) N) (hf : Fine W W' F) :
    TsT w Lb fv g M N Bx By lo (upd L 5) (updv x 29 (fval g a c)) Zx (Zn W W' Zy) W' := by
  have hno : ∀ {k}, L k = true → L k = false → False := fun h h' => by rw [h] at h'; cases h'
  have h4 : L 6 = true → False := fun h => hno (T.e4 h) h3
  have h5 : L 7 = true → False := fun h => h4 (T.e5 h)
  have hf' : Fine W W' Zy := hf.mono hF
  have hwW : w.heap.size + 2 ≤ W.heap.size := by
    obtain ⟨_, _, _, _, _, _, _, _, m, hft⟩ := T.hx
    have := T.rx Bx (hft Bx (.inl rfl))
    omega
  refine ⟨T.ev.fine hf' (fun k h => by have := (T.ry k h).1; omega) (fun p hp h => by have := (T.ry _ h).1; have := hLb p hp; omega), T.hx.fine hf' (fun k _ h h' => T.dj k h h'), ?_, (fun k h => ⟨(T.rx k h).1, Nat.lt_of_lt_of_le (T.rx k h).2 hf.size⟩), ?_, ?_, T.p0, T.p2, (fun h => ?_), (fun _ => ⟨a, c, rfl, kr⟩), T.p4, T.p5, (fun h => (h5 (T.e6 h)).elim), (fun h => (h5 (T.e7 h)).elim), T.p8, T.p9, T.p10, (fun h => h1), (fun h => rfl), T.e5, T.e6, T.e7⟩
  · exact hh.mono fun k hk h => ⟨h.imp (hF k) id, hk⟩
  · rintro k ⟨h | h, h'⟩
    · exact ⟨(T.ry k h).1, h'⟩
    · exact ⟨by omega, h'⟩
  · rintro k h' ⟨h | h, -⟩
    · exact T.dj k h' h
    · have := (T.rx k h').2; omega
  · obtain ⟨a', c', e, r, z⟩ := T.p1 h
    exact ⟨a', c', e, r.fine hf' (z h3), fun h' => by cases h'⟩
theorem TsT.hx0 (T : TsT w Lb fv g M N Bx By lo L x Zx Zy W) (h : L 2 = false) : Has W Bx lo Zx M := by have := T.hx; rwa [h, if_neg (by simp)] at this
theorem TsT.hy0 (T : TsT w Lb fv g M N Bx By lo L x Zx Zy W) (h : L 5 = false) : Has W By lo Zy M := by have := T.hy; rwa [h, if_neg (by simp)] at this
theorem TsT.hx1 (T : TsT w Lb fv g M N Bx By lo L x Zx Zy W) (h : L 2 = true) : Has W Bx lo Zx N := by have := T.hx; rwa [h, if_pos rfl] at this
theorem TsT.hy1 (T : TsT w Lb fv g M N Bx By lo L x Zx Zy W) (h : L 5 = true) : Has W By lo Zy N := by have := T.hy; rwa [h, if_pos rfl] at this
end
def JsT (w : World) (Lb : List (Nat × Obj)) (fv : Value) (t : Int) (g : Fr) (M N : Mm) (Bx By lo : Nat) (b : Nat → Value) (listed : Array Bool) (x : Nat → Value) (W : World) : Prop :=
  listed.size = 13 ∧ (∀ k, k ∉ [6, 24, 25, 26, 27, 28, 29, 30, 31, 32, 33, 34, 35] → x k = b k) ∧ (listed.getD 1 false = true → x 25 = .int .i64 t) ∧ (listed.getD 4 false = true → x 28 = .int .i64 t) ∧ ∃ Zx Zy, TsT w Lb fv g M N Bx By lo (fun i => listed.getD i false) x Zx Zy W
theorem listed_upd {listed : Array Bool} {i n : Nat} (hn : listed.size = n) (hi : i < n) : (fun k => (listed.setIfInBounds i true).getD k false) = upd (fun k => listed.getD k false) i := by
  funext k
  by_cases hk : k = i
  · subst hk
    simp [upd, Array.getD_eq_getD_getElem?, hn, hi]
  · have hk' : ¬ i = k := fun e => hk e.symm
    simp [upd, hk, Array.getD_eq_getD_getElem?, hk']
theorem JsT.next {w W W' : World} {Lb : List (Nat × Obj)} {fv : Value} {t : Int} {g : Fr} {M N : Mm} {Bx By lo : Nat} {b : Nat → Value} {listed : Array Bool} {x x' : Nat → Value} {Zx Zy : Nat → Prop} (J : JsT w Lb fv t g M N Bx By lo b listed x W) (i : Nat) (hi : i < 13) (hi1 : i ≠ 1) (hi4 : i ≠ 4)
    (hx : ∀ k, k ∉ [6, 24, 26, 27, 29, 30, 31, 32, 33, 34, 35] → x' k = x k) (T : TsT w Lb fv g M N Bx By lo (upd (fun k => listed.getD k false) i) x' Zx Zy W') : JsT w Lb fv t g M N Bx By lo b (listed.setIfInBounds i true) x' W' := by
  have e := listed_upd J.1 hi
  refine ⟨by simpa using J.1, fun k hk => (hx k (fun h => hk ?_)).trans (J.2.1 k hk), fun h => ?_, fun h => ?_, Zx, Zy, ?_⟩
  · simp only [List.mem_cons, List.not_mem_nil, or_false] at h ⊢
    omega
  · rw [hx 25 (by decide)]
    refine J.2.2.1 ?_
    have := congrFun e 1
    rw [h] at this
    simpa [upd, hi1.symm] using this.symm
  · rw [hx 28 (by decide)]
    refine J.2.2.2.1 ?_
    have := congrFun e 4
    rw [h] at this
    simpa [upd, hi4.symm] using this.symm
  · rw [e]
    exact T
theorem TsT.move {w W : World} {Lb : List (Nat × Obj)} {fv v : Value} {g : Fr} {M N : Mm} {Bx By lo : Nat} {L : Nat → Bool} {x : Nat → Value} {Zx Zy : Nat → Prop} (T : TsT w Lb fv g M N Bx By lo L x Zx Zy W) (i d : Nat) (hi : i = 1 ∧ d = 25 ∨ i = 4 ∧ d = 28) : TsT w Lb fv g M N Bx By lo (upd L i) (updv x d v) Zx Zy W := by
  have hL : ∀ k, k ≠ 1 → k ≠ 4 → upd L i k = L k := fun k h1 h4 => by
    unfold upd
    rw [if_neg (by omega)]
  have hx : ∀ k, k ≠ 25 → k ≠ 28 → updv x d v k = x k := fun k h1 h4 => by
    unfold updv
    rw [if_neg (by omega)]
  obtain ⟨ev, tx, ty, rx, ry, dj, p0, p2, p1, p3, p4, p5, p6, p7, p8, p9, p10, e3, e4, e5, e6, e7⟩ := T
  refine ⟨ev, ?_, ?_, rx, ry, dj, ?_, ?_, ?_, ?_, ?_, ?_, ?_, ?_, ?_, ?_, ?_, ?_, ?_, ?_, ?_, ?_⟩
  all_goals first
    | (rw [hL _ (by omega) (by omega)]; assumption)
    | (rw [hL _ (by omega) (by omega), hL _ (by omega) (by omega)]; assumption)
    | (rw [hL _ (by omega) (by omega), hx _ (by omega) (by omega)]; assumption)
    | (rw [hL _ (by omega) (by omega), hL _ (by omega) (by omega), hx _ (by omega) (by omega)]; assumption)
    | skip
theorem JsT.move {w W : World} {Lb : List (Nat × Obj)} {fv : Value} {t : Int} {g : Fr} {M N : Mm} {Bx By lo : Nat} {b : Nat → Value} {listed : Array Bool} {x : Nat → Value} (J : JsT w Lb fv t g M N Bx By lo b listed x W) (i d : Nat) (hi : i = 1 ∧ d = 25 ∨ i = 4 ∧ d = 28) : JsT w Lb fv t g M N Bx By lo b (listed.setIfInBounds i true) (updv x d (.int .i64 t)) W := by
  obtain ⟨h1, h2, h3, h4, Zx, Zy, T⟩ := J
  have e := listed_upd (i := i) h1 (by omega)
  refine ⟨by simpa using h1, fun k hk => ?_, fun h => ?_, fun h => ?_, Zx, Zy, ?_⟩
  · unfold updv
    rw [if_neg]
    · exact h2 k hk
    · rintro rfl
      rcases hi with ⟨-, rfl⟩ | ⟨-, rfl⟩ <;> exact hk (by decide)
  · rcases hi with ⟨rfl, rfl⟩ | ⟨rfl, rfl⟩
    · rfl
    · refine h3 ?_
      have := congrFun e 1
      rw [h] at this
      simpa [upd] using this.symm
  · rcases hi with ⟨rfl, rfl⟩ | ⟨rfl, rfl⟩
    · refine h4 ?_
      have := congrFun e 4
      rw [h] at this
      simpa [upd] using this.symm
    · rfl
  · rw [e]
    exact T.move i d hi
theorem updv_outsT {x : Nat → Value} {d : Nat} {v : Value} (hd : d ∈ [6, 24, 26, 27, 29, 30, 31, 32, 33, 34, 35]) : ∀ k, k ∉ [6, 24, 26, 27, 29, 30, 31, 32, 33, 34, 35] → updv x d v k = x k := by
  intro k hk
  unfold updv
  rw [if_neg]
  rintro rfl
  exact hk hd
end Go.Proofs.Ytdbilofhcadmoab.mm

/- A law's slots, where it is handed memory, a frame and a number. -/
namespace Go.Proofs.Ytdbilofhcadmoab.mm
open Go.ChangeShapes Go.WideShapes Go.ChangeAt Go.RowKit Go.Joins
def actT (x : Nat → Value) : Act := ⟨#[x 0, x 1, x 2, x 3, x 4, x 5, x 6, x 7, x 8, x 9, x 10, x 11, x 12, x 13, x 14, x 15, x 16, x 17, x 18, x 19, x 20, x 21, x 22, x 23, x 24, x 25, x 26, x 27, x 28, x 29, x 30, x 31, x 32, x 33, x 34, x 35], []⟩
theorem eqM_selfA (N : Mm) : eqM N N = true := by
  unfold eqM
  rw [(eqS_iff _ _).2 rfl, (eqI_iff _ _).2 rfl, (eqI_iff _ _).2 rfl, (eqI_iff _ _).2 rfl]
  simp
def addFr (f : Fr) : Fr := { f with c := { f.c with kind := 2 } }

end Go.Proofs.Ytdbilofhcadmoab.mm
