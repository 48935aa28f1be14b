/- The contract of the document's own DropStep: pass, cut. -/
import Derived.Test.YtdbilofhcadmoabEc12
import Derived.Test.YtdbilofhcadmoabEc13
import Derived.BigRegion
import Derived.Deep.QuietTactic
import Derived.BigQuiet
import Derived.Lib.QuietBelow
import Derived.Test.YtdbilofhcadmoabEs01
namespace Go.Proofs.Ytdbilofhcadmoab.mm
open Go.ChangeShapes Go.WideShapes Go.ChangeAt Go.RowKit Go.Joins Go.Deep Go.Sort
set_option maxRecDepth 100000
set_option linter.unusedVariables false

set_option maxHeartbeats 3200000 in
theorem rdr3a (t : Int) (M : Mm) (c : Cl) (prev slot nn ee : Int) (keys : List (Int × Int)) (B lo : Nat) (aS aH aF aL : Option Addr) (cS cH cF cL : Nat) (aK : Option Addr) (cK : Nat) (w : World) (b : Nat)
    (m : Mine w B lo aS aH aF aL cS cH cF cL M) (HR : Hid (KRow w aK cK keys)) (HZ : Hid (∀ ad, aK = some ad → ¬ Foot B aS aH aF aL ad.block)) (j : Nat) (s : Sl) (hns : M.slots.length ≤ 12) (hj : j < M.slots.length) (hs : s = slotAt M j)
    (HBk : Hid (∀ W : World, Calls Try.prog 32 #[.agg #[.slice aS M.slots.length cS, .slice aH M.heads.length cH, .slice aF M.free.length cF, .slice aL M.locks.length cL, .int .i64 M.now], .agg #[.int .i64 c.kind, .int .i64 c.a, .int .i64 c.b, .int .i64 c.time, .int .i64 c.bk, .int .i64 c.slot]] W fun e w' => e = .returned (.int .i64 (b : Int)) ∧ Below W.heap.size W w')) :
    Calls Try.prog 63 #[.pointer (some ⟨B, 0, none⟩), .agg #[.int .i64 c.kind, .int .i64 c.a, .int .i64 c.b, .int .i64 c.time, .int .i64 c.bk, .int .i64 c.slot, .int .i64 3, .int .i64 ((j : Int) + 1), .int .i64 prev, .int .i64 slot, .int .i64 nn, .slice aK keys.length cK, .bool false, .int .i64 ee], .int .i64 t] w fun e w' => Ret w w' e (prevF2 ⟨c, 3, (j : Int) + 1, prev, slot, nn, keys, false, ee⟩ ((j : Int) + 1) s.next 2) aK cK ∧ Has w' B lo (Up w (Foot B aS aH aF aL)) (M) ∧ Fine w w' (Foot B aS aH aF aL) := by
  obtain ⟨gS, rfl, oS, lS, kS, -⟩ := row_form m.c.s (by omega)
  have HX : Hid (∀ W, Mine W B lo (some ⟨gS, 0, none⟩) aH aF aL cS cH cF cL M → W.cell? ⟨gS, j * 6, none⟩ = some (.int .i64 s.refs) ∧ W.cell? ⟨gS, j * 6 + 1, none⟩ = some (.int .i64 s.a) ∧ W.cell? ⟨gS, j * 6 + 2, none⟩ = some (.int .i64 s.b) ∧
    W.cell? ⟨gS, j * 6 + 3, none⟩ = some (.int .i64 s.unt) ∧ W.cell? ⟨gS, j * 6 + 4, none⟩ = some (.bool s.inn) ∧ W.cell? ⟨gS, j * 6 + 5, none⟩ = some (.int .i64 s.next) ∧ ∀ q, W.frozen? ⟨gS, q, none⟩ = false) := fun W m' => slotAt_cells m'.c.s hj hs
  clear hs
  have hw1 : IntKind.i64.wrap ((j : Int) + 1 - 1) = (j : Int) := by rw [IntKind.wrap_i64]; omega
  have hw2 : wrap64 ((j : Int) + 1 - 1) = (j : Int) := by unfold wrap64; omega
  have hw3 : (j : Int) + 1 - 1 = (j : Int) := by omega
  have HI : Hid (∀ W : World, Calls Try.prog 99 #[.int .i64 ((j : Int) + 1)] W fun e w' => e = .returned (.bool true) ∧ W = w') := fun W => isSlotEA _ W (by rw [decide_eq_true_iff]; omega)
  obtain ⟨of, hof⟩ : ∃ o : Obj, o = .cells #[.int .i64 c.kind, .int .i64 c.a, .int .i64 c.b, .int .i64 c.time, .int .i64 c.bk, .int .i64 c.slot, .int .i64 3, .int .i64 ((j : Int) + 1), .int .i64 prev, .int .i64 slot, .int .i64 nn, .slice aK keys.length cK, .bool false, .int .i64 ee] 51 := ⟨_, rfl⟩
  obtain ⟨oz, hoz⟩ : ∃ o : Obj, o = zeroFr := ⟨_, rfl⟩
  have HE : Hid (Lk w ((w.alloc of).alloc oz) B lo (some ⟨gS, 0, none⟩) aH aF aL cS cH cF cL M ⟨c, 3, (j : Int) + 1, prev, slot, nn, keys, false, ee⟩ aK cK) := Lk.first m ⟨c, 3, (j : Int) + 1, prev, slot, nn, keys, false, ee⟩ aK cK hof hoz
  obtain ⟨f0, f1, f2, f3, f4, f5, f6, f7, f8, f9, f10, f11, f12, f13, ff, fs⟩ := framef (show ((w.alloc of).alloc oz).heap[w.heap.size]? = some (.cells #[.int .i64 c.kind, .int .i64 c.a, .int .i64 c.b, .int .i64 c.time, .int .i64 c.bk, .int .i64 c.slot, .int .i64 3, .int .i64 ((j : Int) + 1), .int .i64 prev, .int .i64 slot, .int .i64 nn, .slice aK keys.length cK, .bool false, .int .i64 ee] 51 (0, 0)) from HE.out.fb)
  obtain ⟨q0, q1, q2, q3, q4, -, -, -, -, -, qs⟩ := boxf HE.out.m.box
  unfold zeroFr at hoz
  clear m
  go_enter Try.func63, Try.ntmps63
  go_wp2_with fail
  rw [← hof, ← hoz]
  generalize (w.alloc of).alloc oz = W0 at *
  subst hof hoz
  have cB : ∀ (d : Nat) (os : Array Obj), Calls Try.prog 32 #[.agg #[.slice (some ⟨gS, 0, none⟩) M.slots.length cS, .slice aH M.heads.length cH, .slice aF M.free.length cF, .slice aL M.locks.length cL, .int .i64 M.now], .agg #[.int .i64 c.kind, .int .i64 c.a, .int .i64 c.b, .int .i64 c.time, .int .i64 c.bk, .int .i64 c.slot]] (grow (redrawn W0 d) os) fun e w'' => e = .returned (.int .i64 (b : Int)) ∧ ∃ p : Regrown, w'' = grow (redrawn W0 p.d) p.os := fun d os => Calls.regrown_of (HBk.out _)
  have Xq0 := cell_regrown q0
  have Xq1 := cell_regrown q1
  have Xq2 := cell_regrown q2
  have Xq3 := cell_regrown q3
  have Xq4 := cell_regrown q4
  have Xf0 := cell_regrown f0
  have Xf1 := cell_regrown f1
  have Xf2 := cell_regrown f2
  have Xf3 := cell_regrown f3
  have Xf4 := cell_regrown f4
  have Xf5 := cell_regrown f5
  clear q0 q1 q2 q3 q4 qs
  clear f0 f1 f2 f3 f4 f5 f6 f7 f8 f9 f10 f11 f12 f13 ff fs
  refine wp_region_quiet_below (by kernel_rfl) (by kernel_rfl) ?_
  repeat (quiet_step (first | exact cB _ _))
  refine wpQuiet_nil ?_
  intro _ hw'
  obtain ⟨⟨dq, osq⟩, hw''⟩ := hw'
  subst hw''
  have HE1 : Hid (Lk w (grow (redrawn W0 dq) osq) B lo (some ⟨gS, 0, none⟩) aH aF aL cS cH cF cL M ⟨c, 3, (j : Int) + 1, prev, slot, nn, keys, false, ee⟩ aK cK) := HE.out.below (below_regrown W0 dq osq)
  generalize grow (redrawn W0 dq) osq = w1 at *
  clear Xq0 Xq1 Xq2 Xq3 Xq4 Xf0 Xf1 Xf2 Xf3 Xf4 Xf5 HE
  clear cB HBk
  obtain ⟨f0, f1, f2, f3, f4, f5, f6, f7, f8, f9, f10, f11, f12, f13, ff, fs⟩ := framef (show w1.heap[w.heap.size]? = some (.cells #[.int .i64 c.kind, .int .i64 c.a, .int .i64 c.b, .int .i64 c.time, .int .i64 c.bk, .int .i64 c.slot, .int .i64 3, .int .i64 ((j : Int) + 1), .int .i64 prev, .int .i64 slot, .int .i64 nn, .slice aK keys.length cK, .bool false, .int .i64 ee] 51 (0, 0)) from HE1.out.fb)
  obtain ⟨q0, q1, q2, q3, q4, -, -, -, -, -, qs⟩ := boxf HE1.out.m.box
  obtain ⟨x0, x1, x2, x3, x4, x5, xf⟩ := HX.out w1 HE1.out.m
  have xs : gS < w1.heap.size := cell_lt x0
  go_wp2_with (go_at_call 99; refine (HI.out _).mono ?_; rintro e w3 ⟨rfl, rfl⟩)
  have hB0 : B < w.heap.size := HE1.out.lt B (.inl rfl)
  have hg0 : gS < w.heap.size := HE1.out.lt gS (.inr (.inl ⟨_, rfl, rfl⟩))
  have hBn : B ≠ w.heap.size := by omega
  have hgn : gS ≠ w.heap.size := by omega
  have hBm : w.heap.size ≠ B := by omega
  have hgm : w.heap.size ≠ gS := by omega
  rename_i K0 hK0
  apply by_tail (R := fun a => ∀ W2 : World, Lk2 w W2 (Foot B (some ⟨gS, 0, none⟩) aH aF aL) B lo M ⟨c, 3, s.next, (j : Int) + 1, slot, nn, keys, false, ee⟩ aK cK → K0 a W2)
  · intro tail0
    have tail : Hid _ := tail0
    clear tail0
    go_region
    all_goals exact tail.out _ (((HE1.out.store 8 (.int .i64 ((j : Int) + 1)) ⟨c, 3, (j : Int) + 1, (j : Int) + 1, slot, nn, keys, false, ee⟩ rfl).store 7 (.int .i64 s.next) ⟨c, 3, s.next, (j : Int) + 1, slot, nn, keys, false, ee⟩ rfl).two.below ⟨rfl, rfl, rfl, Nat.le_refl _, fun _ _ => rfl⟩)
  intro w2 h3
  have HE2 : Hid (Lk2 w w2 (Foot B (some ⟨gS, 0, none⟩) aH aF aL) B lo M ⟨c, 3, s.next, (j : Int) + 1, slot, nn, keys, false, ee⟩ aK cK) := h3
  refine hK0 _ _ ?_
  clear h3 hK0 x0 x1 x2 x3 x4 x5 xf xs HE1 hB0 hg0 hBn hgn hBm hgm
  clear f0 f1 f2 f3 f4 f5 f6 f7 f8 f9 f10 f11 f12 f13 ff fs
  obtain ⟨f0, f1, f2, f3, f4, f5, f6, f7, f8, f9, f10, f11, f12, f13, ff, fs⟩ := framef (show w2.heap[w.heap.size]? = some (.cells #[.int .i64 c.kind, .int .i64 c.a, .int .i64 c.b, .int .i64 c.time, .int .i64 c.bk, .int .i64 c.slot, .int .i64 3, .int .i64 s.next, .int .i64 ((j : Int) + 1), .int .i64 slot, .int .i64 nn, .slice aK keys.length cK, .bool false, .int .i64 ee] 51 (0, 0)) from HE2.out.fb)
  go_wp2_with fail
  refine (drto_any ⟨c, 3, s.next, (j : Int) + 1, slot, nn, keys, false, ee⟩ 2 w.heap.size aK cK _ HE2.out.fb).mono ?_
  rintro e w9 ⟨rfl, hf9, hx9⟩
  have HE9 : Hid (Lk2 w w9 (Foot B (some ⟨gS, 0, none⟩) aH aF aL) B lo M (toF ⟨c, 3, s.next, (j : Int) + 1, slot, nn, keys, false, ee⟩ 2) aK cK) := HE2.out.toA hf9 hx9
  clear HE2 hf9 hx9
  clear q0 q1 q2 q3 q4 qs
  clear f0 f1 f2 f3 f4 f5 f6 f7 f8 f9 f10 f11 f12 f13 ff fs
  obtain ⟨g0, g1, g2, g3, g4, g5, g6, g7, g8, g9, g10, g11, g12, g13, gf, gs⟩ := framef HE9.out.zb
  go_wp2
  refine bodyPost_ret (v := .agg #[.int .i64 (prevF2 ⟨c, 3, (j : Int) + 1, prev, slot, nn, keys, false, ee⟩ ((j : Int) + 1) s.next 2).c.kind, .int .i64 (prevF2 ⟨c, 3, (j : Int) + 1, prev, slot, nn, keys, false, ee⟩ ((j : Int) + 1) s.next 2).c.a, .int .i64 (prevF2 ⟨c, 3, (j : Int) + 1, prev, slot, nn, keys, false, ee⟩ ((j : Int) + 1) s.next 2).c.b, .int .i64 (prevF2 ⟨c, 3, (j : Int) + 1, prev, slot, nn, keys, false, ee⟩ ((j : Int) + 1) s.next 2).c.time, .int .i64 (prevF2 ⟨c, 3, (j : Int) + 1, prev, slot, nn, keys, false, ee⟩ ((j : Int) + 1) s.next 2).c.bk, .int .i64 (prevF2 ⟨c, 3, (j : Int) + 1, prev, slot, nn, keys, false, ee⟩ ((j : Int) + 1) s.next 2).c.slot, .int .i64 (prevF2 ⟨c, 3, (j : Int) + 1, prev, slot, nn, keys, false, ee⟩ ((j : Int) + 1) s.next 2).pl, .int .i64 (prevF2 ⟨c, 3, (j : Int) + 1, prev, slot, nn, keys, false, ee⟩ ((j : Int) + 1) s.next 2).cur, .int .i64 (prevF2 ⟨c, 3, (j : Int) + 1, prev, slot, nn, keys, false, ee⟩ ((j : Int) + 1) s.next 2).prev, .int .i64 (prevF2 ⟨c, 3, (j : Int) + 1, prev, slot, nn, keys, false, ee⟩ ((j : Int) + 1) s.next 2).slot, .int .i64 (prevF2 ⟨c, 3, (j : Int) + 1, prev, slot, nn, keys, false, ee⟩ ((j : Int) + 1) s.next 2).n, .slice aK (prevF2 ⟨c, 3, (j : Int) + 1, prev, slot, nn, keys, false, ee⟩ ((j : Int) + 1) s.next 2).keys.length cK, .bool (prevF2 ⟨c, 3, (j : Int) + 1, prev, slot, nn, keys, false, ee⟩ ((j : Int) + 1) s.next 2).done, .int .i64 (prevF2 ⟨c, 3, (j : Int) + 1, prev, slot, nn, keys, false, ee⟩ ((j : Int) + 1) s.next 2).e]) (by simp [results, Try.results63, go_sem, prevF2, toF, g0, g1, g2, g3, g4, g5, g6, g7, g8, g9, g10, g11, g12, g13]) rfl ⟨⟨aK, cK, rfl, HR.out.fine HE9.out.end14.2 HZ.out, (fun ad h => .inl h), fun _ => ⟨rfl, rfl⟩⟩, HE9.out.end14⟩

set_option maxHeartbeats 3200000 in
theorem rdr3b (t : Int) (M : Mm) (c : Cl) (cur prev slot nn ee : Int) (keys : List (Int × Int)) (B lo : Nat) (aS aH aF aL : Option Addr) (cS cH cF cL : Nat) (aK : Option Addr) (cK : Nat) (w : World) (b : Nat)
    (m : Mine w B lo aS aH aF aL cS cH cF cL M) (HR : Hid (KRow w aK cK keys)) (HZ : Hid (∀ ad, aK = some ad → ¬ Foot B aS aH aF aL ad.block)) (hc : cur ≤ 0)
    (HBk : Hid (∀ W : World, Calls Try.prog 32 #[.agg #[.slice aS M.slots.length cS, .slice aH M.heads.length cH, .slice aF M.free.length cF, .slice aL M.locks.length cL, .int .i64 M.now], .agg #[.int .i64 c.kind, .int .i64 c.a, .int .i64 c.b, .int .i64 c.time, .int .i64 c.bk, .int .i64 c.slot]] W fun e w' => e = .returned (.int .i64 (b : Int)) ∧ Below W.heap.size W w')) :
    Calls Try.prog 63 #[.pointer (some ⟨B, 0, none⟩), .agg #[.int .i64 c.kind, .int .i64 c.a, .int .i64 c.b, .int .i64 c.time, .int .i64 c.bk, .int .i64 c.slot, .int .i64 3, .int .i64 cur, .int .i64 prev, .int .i64 slot, .int .i64 nn, .slice aK keys.length cK, .bool false, .int .i64 ee], .int .i64 t] w fun e w' => Ret w w' e (errF ⟨c, 3, cur, prev, slot, nn, keys, false, ee⟩ 8 5) aK cK ∧ Has w' B lo (Up w (Foot B aS aH aF aL)) (M) ∧ Fine w w' (Foot B aS aH aF aL) := by
  have HI : Hid (∀ W : World, Calls Try.prog 99 #[.int .i64 cur] W fun e w' => e = .returned (.bool false) ∧ W = w') := fun W => isSlotEA _ W (by rw [decide_eq_false_iff_not]; omega)
  obtain ⟨of, hof⟩ : ∃ o : Obj, o = .cells #[.int .i64 c.kind, .int .i64 c.a, .int .i64 c.b, .int .i64 c.time, .int .i64 c.bk, .int .i64 c.slot, .int .i64 3, .int .i64 cur, .int .i64 prev, .int .i64 slot, .int .i64 nn, .slice aK keys.length cK, .bool false, .int .i64 ee] 51 := ⟨_, rfl⟩
  obtain ⟨oz, hoz⟩ : ∃ o : Obj, o = zeroFr := ⟨_, rfl⟩
  have HE : Hid (Lk w ((w.alloc of).alloc oz) B lo aS aH aF aL cS cH cF cL M ⟨c, 3, cur, prev, slot, nn, keys, false, ee⟩ aK cK) := Lk.first m ⟨c, 3, cur, prev, slot, nn, keys, false, ee⟩ aK cK hof hoz
  obtain ⟨f0, f1, f2, f3, f4, f5, f6, f7, f8, f9, f10, f11, f12, f13, ff, fs⟩ := framef (show ((w.alloc of).alloc oz).heap[w.heap.size]? = some (.cells #[.int .i64 c.kind, .int .i64 c.a, .int .i64 c.b, .int .i64 c.time, .int .i64 c.bk, .int .i64 c.slot, .int .i64 3, .int .i64 cur, .int .i64 prev, .int .i64 slot, .int .i64 nn, .slice aK keys.length cK, .bool false, .int .i64 ee] 51 (0, 0)) from HE.out.fb)
  obtain ⟨q0, q1, q2, q3, q4, -, -, -, -, -, qs⟩ := boxf HE.out.m.box
  unfold zeroFr at hoz
  clear m
  go_enter Try.func63, Try.ntmps63
  go_wp2_with fail
  rw [← hof, ← hoz]
  generalize (w.alloc of).alloc oz = W0 at *
  subst hof hoz
  have cB : ∀ (d : Nat) (os : Array Obj), Calls Try.prog 32 #[.agg #[.slice aS M.slots.length cS, .slice aH M.heads.length cH, .slice aF M.free.length cF, .slice aL M.locks.length cL, .int .i64 M.now], .agg #[.int .i64 c.kind, .int .i64 c.a, .int .i64 c.b, .int .i64 c.time, .int .i64 c.bk, .int .i64 c.slot]] (grow (redrawn W0 d) os) fun e w'' => e = .returned (.int .i64 (b : Int)) ∧ ∃ p : Regrown, w'' = grow (redrawn W0 p.d) p.os := fun d os => Calls.regrown_of (HBk.out _)
  have Xq0 := cell_regrown q0
  have Xq1 := cell_regrown q1
  have Xq2 := cell_regrown q2
  have Xq3 := cell_regrown q3
  have Xq4 := cell_regrown q4
  have Xf0 := cell_regrown f0
  have Xf1 := cell_regrown f1
  have Xf2 := cell_regrown f2
  have Xf3 := cell_regrown f3
  have Xf4 := cell_regrown f4
  have Xf5 := cell_regrown f5
  clear q0 q1 q2 q3 q4 qs
  clear f0 f1 f2 f3 f4 f5 f6 f7 f8 f9 f10 f11 f12 f13 ff fs
  refine wp_region_quiet_below (by kernel_rfl) (by kernel_rfl) ?_
  repeat (quiet_step (first | exact cB _ _))
  refine wpQuiet_nil ?_
  intro _ hw'
  obtain ⟨⟨dq, osq⟩, hw''⟩ := hw'
  subst hw''
  have HE1 : Hid (Lk w (grow (redrawn W0 dq) osq) B lo aS aH aF aL cS cH cF cL M ⟨c, 3, cur, prev, slot, nn, keys, false, ee⟩ aK cK) := HE.out.below (below_regrown W0 dq osq)
  generalize grow (redrawn W0 dq) osq = w1 at *
  clear Xq0 Xq1 Xq2 Xq3 Xq4 Xf0 Xf1 Xf2 Xf3 Xf4 Xf5 HE
  clear cB HBk
  obtain ⟨f0, f1, f2, f3, f4, f5, f6, f7, f8, f9, f10, f11, f12, f13, ff, fs⟩ := framef (show w1.heap[w.heap.size]? = some (.cells #[.int .i64 c.kind, .int .i64 c.a, .int .i64 c.b, .int .i64 c.time, .int .i64 c.bk, .int .i64 c.slot, .int .i64 3, .int .i64 cur, .int .i64 prev, .int .i64 slot, .int .i64 nn, .slice aK keys.length cK, .bool false, .int .i64 ee] 51 (0, 0)) from HE1.out.fb)
  obtain ⟨q0, q1, q2, q3, q4, -, -, -, -, -, qs⟩ := boxf HE1.out.m.box
  go_wp2_with (go_at_call 99; refine (HI.out _).mono ?_; rintro e w3 ⟨rfl, rfl⟩)
  have HE2 : Hid (Lk2 w _ (Foot B aS aH aF aL) B lo M ⟨c, 3, cur, prev, slot, nn, keys, false, 8⟩ aK cK) := HE1.out.two.store 13 (.int .i64 8) ⟨c, 3, cur, prev, slot, nn, keys, false, 8⟩ rfl
  clear HE1
  refine (drto_any ⟨c, 3, cur, prev, slot, nn, keys, false, 8⟩ 5 w.heap.size aK cK _ HE2.out.fb).mono ?_
  rintro e w9 ⟨rfl, hf9, hx9⟩
  have HE9 : Hid (Lk2 w w9 (Foot B aS aH aF aL) B lo M (toF ⟨c, 3, cur, prev, slot, nn, keys, false, 8⟩ 5) aK cK) := HE2.out.toA hf9 hx9
  clear HE2 hf9 hx9
  clear q0 q1 q2 q3 q4 qs
  clear f0 f1 f2 f3 f4 f5 f6 f7 f8 f9 f10 f11 f12 f13 ff fs
  obtain ⟨g0, g1, g2, g3, g4, g5, g6, g7, g8, g9, g10, g11, g12, g13, gf, gs⟩ := framef HE9.out.zb
  go_wp2
  refine bodyPost_ret (v := .agg #[.int .i64 (errF ⟨c, 3, cur, prev, slot, nn, keys, false, ee⟩ 8 5).c.kind, .int .i64 (errF ⟨c, 3, cur, prev, slot, nn, keys, false, ee⟩ 8 5).c.a, .int .i64 (errF ⟨c, 3, cur, prev, slot, nn, keys, false, ee⟩ 8 5).c.b, .int .i64 (errF ⟨c, 3, cur, prev, slot, nn, keys, false, ee⟩ 8 5).c.time, .int .i64 (errF ⟨c, 3, cur, prev, slot, nn, keys, false, ee⟩ 8 5).c.bk, .int .i64 (errF ⟨c, 3, cur, prev, slot, nn, keys, false, ee⟩ 8 5).c.slot, .int .i64 (errF ⟨c, 3, cur, prev, slot, nn, keys, false, ee⟩ 8 5).pl, .int .i64 (errF ⟨c, 3, cur, prev, slot, nn, keys, false, ee⟩ 8 5).cur, .int .i64 (errF ⟨c, 3, cur, prev, slot, nn, keys, false, ee⟩ 8 5).prev, .int .i64 (errF ⟨c, 3, cur, prev, slot, nn, keys, false, ee⟩ 8 5).slot, .int .i64 (errF ⟨c, 3, cur, prev, slot, nn, keys, false, ee⟩ 8 5).n, .slice aK (errF ⟨c, 3, cur, prev, slot, nn, keys, false, ee⟩ 8 5).keys.length cK, .bool (errF ⟨c, 3, cur, prev, slot, nn, keys, false, ee⟩ 8 5).done, .int .i64 (errF ⟨c, 3, cur, prev, slot, nn, keys, false, ee⟩ 8 5).e]) (by simp [results, Try.results63, go_sem, errF, toF, g0, g1, g2, g3, g4, g5, g6, g7, g8, g9, g10, g11, g12, g13]) rfl ⟨⟨aK, cK, rfl, HR.out.fine HE9.out.end14.2 HZ.out, (fun ad h => .inl h), fun _ => ⟨rfl, rfl⟩⟩, HE9.out.end14⟩

set_option maxHeartbeats 3200000 in
theorem rdr4a (t : Int) (M : Mm) (c : Cl) (prev slot nn ee : Int) (keys : List (Int × Int)) (B lo : Nat) (aS aH aF aL : Option Addr) (cS cH cF cL : Nat) (aK : Option Addr) (cK : Nat) (w : World) (b : Nat)
    (m : Mine w B lo aS aH aF aL cS cH cF cL M) (HR : Hid (KRow w aK cK keys)) (HZ : Hid (∀ ad, aK = some ad → ¬ Foot B aS aH aF aL ad.block)) (j : Nat) (hj : j ≤ 1000) (M' : Mm) (HCt : Hid (∀ (W : World) (Z : Nat → Prop), Has W B lo Z M → Calls Try.prog 138 #[.pointer (some ⟨B, 0, none⟩), .int .i64 prev, .int .i64 (j : Int), .int .i64 (b : Int)] W fun e w' => e = .returned (.tuple #[]) ∧ Has w' B lo (Up W Z) M' ∧ Fine W w' Z))
    (HBk : Hid (∀ W : World, Calls Try.prog 32 #[.agg #[.slice aS M.slots.length cS, .slice aH M.heads.length cH, .slice aF M.free.length cF, .slice aL M.locks.length cL, .int .i64 M.now], .agg #[.int .i64 c.kind, .int .i64 c.a, .int .i64 c.b, .int .i64 c.time, .int .i64 c.bk, .int .i64 c.slot]] W fun e w' => e = .returned (.int .i64 (b : Int)) ∧ Below W.heap.size W w')) :
    Calls Try.prog 63 #[.pointer (some ⟨B, 0, none⟩), .agg #[.int .i64 c.kind, .int .i64 c.a, .int .i64 c.b, .int .i64 c.time, .int .i64 c.bk, .int .i64 c.slot, .int .i64 4, .int .i64 ((j : Int) + 1), .int .i64 prev, .int .i64 slot, .int .i64 nn, .slice aK keys.length cK, .bool false, .int .i64 ee], .int .i64 t] w fun e w' => Ret w w' e ({ (⟨c, 4, (j : Int) + 1, prev, slot, nn, keys, false, ee⟩ : Fr) with slot := (j : Int), e := 0, pl := 5 }) aK cK ∧ Has w' B lo (Up w (Foot B aS aH aF aL)) (M') ∧ Fine w w' (Foot B aS aH aF aL) := by
  have hw1 : IntKind.i64.wrap ((j : Int) + 1 - 1) = (j : Int) := by rw [IntKind.wrap_i64]; omega
  have hw2 : wrap64 ((j : Int) + 1 - 1) = (j : Int) := by unfold wrap64; omega
  have hw3 : (j : Int) + 1 - 1 = (j : Int) := by omega
  have HI : Hid (∀ W : World, Calls Try.prog 99 #[.int .i64 ((j : Int) + 1)] W fun e w' => e = .returned (.bool true) ∧ W = w') := fun W => isSlotEA _ W (by rw [decide_eq_true_iff]; omega)
  obtain ⟨of, hof⟩ : ∃ o : Obj, o = .cells #[.int .i64 c.kind, .int .i64 c.a, .int .i64 c.b, .int .i64 c.time, .int .i64 c.bk, .int .i64 c.slot, .int .i64 4, .int .i64 ((j : Int) + 1), .int .i64 prev, .int .i64 slot, .int .i64 nn, .slice aK keys.length cK, .bool false, .int .i64 ee] 51 := ⟨_, rfl⟩
  obtain ⟨oz, hoz⟩ : ∃ o : Obj, o = zeroFr := ⟨_, rfl⟩
  have HE : Hid (Lk w ((w.alloc of).alloc oz) B lo aS aH aF aL cS cH cF cL M ⟨c, 4, (j : Int) + 1, prev, slot, nn, keys, false, ee⟩ aK cK) := Lk.first m ⟨c, 4, (j : Int) + 1, prev, slot, nn, keys, false, ee⟩ aK cK hof hoz
  obtain ⟨f0, f1, f2, f3, f4, f5, f6, f7, f8, f9, f10, f11, f12, f13, ff, fs⟩ := framef (show ((w.alloc of).alloc oz).heap[w.heap.size]? = some (.cells #[.int .i64 c.kind, .int .i64 c.a, .int .i64 c.b, .int .i64 c.time, .int .i64 c.bk, .int .i64 c.slot, .int .i64 4, .int .i64 ((j : Int) + 1), .int .i64 prev, .int .i64 slot, .int .i64 nn, .slice aK keys.length cK, .bool false, .int .i64 ee] 51 (0, 0)) from HE.out.fb)
  obtain ⟨q0, q1, q2, q3, q4, -, -, -, -, -, qs⟩ := boxf HE.out.m.box
  unfold zeroFr at hoz
  clear m
  go_enter Try.func63, Try.ntmps63
  go_wp2_with fail
  rw [← hof, ← hoz]
  generalize (w.alloc of).alloc oz = W0 at *
  subst hof hoz
  have cB : ∀ (d : Nat) (os : Array Obj), Calls Try.prog 32 #[.agg #[.slice aS M.slots.length cS, .slice aH M.heads.length cH, .slice aF M.free.length cF, .slice aL M.locks.length cL, .int .i64 M.now], .agg #[.int .i64 c.kind, .int .i64 c.a, .int .i64 c.b, .int .i64 c.time, .int .i64 c.bk, .int .i64 c.slot]] (grow (redrawn W0 d) os) fun e w'' => e = .returned (.int .i64 (b : Int)) ∧ ∃ p : Regrown, w'' = grow (redrawn W0 p.d) p.os := fun d os => Calls.regrown_of (HBk.out _)
  have Xq0 := cell_regrown q0
  have Xq1 := cell_regrown q1
  have Xq2 := cell_regrown q2
  have Xq3 := cell_regrown q3
  have Xq4 := cell_regrown q4
  have Xf0 := cell_regrown f0
  have Xf1 := cell_regrown f1
  have Xf2 := cell_regrown f2
  have Xf3 := cell_regrown f3
  have Xf4 := cell_regrown f4
  have Xf5 := cell_regrown f5
  clear q0 q1 q2 q3 q4 qs
  clear f0 f1 f2 f3 f4 f5 f6 f7 f8 f9 f10 f11 f12 f13 ff fs
  refine wp_region_quiet_below (by kernel_rfl) (by kernel_rfl) ?_
  repeat (quiet_step (first | exact cB _ _))
  refine wpQuiet_nil ?_
  intro _ hw'
  obtain ⟨⟨dq, osq⟩, hw''⟩ := hw'
  subst hw''
  have HE1 : Hid (Lk w (grow (redrawn W0 dq) osq) B lo aS aH aF aL cS cH cF cL M ⟨c, 4, (j : Int) + 1, prev, slot, nn, keys, false, ee⟩ aK cK) := HE.out.below (below_regrown W0 dq osq)
  generalize grow (redrawn W0 dq) osq = w1 at *
  clear Xq0 Xq1 Xq2 Xq3 Xq4 Xf0 Xf1 Xf2 Xf3 Xf4 Xf5 HE
  clear cB HBk
  obtain ⟨f0, f1, f2, f3, f4, f5, f6, f7, f8, f9, f10, f11, f12, f13, ff, fs⟩ := framef (show w1.heap[w.heap.size]? = some (.cells #[.int .i64 c.kind, .int .i64 c.a, .int .i64 c.b, .int .i64 c.time, .int .i64 c.bk, .int .i64 c.slot, .int .i64 4, .int .i64 ((j : Int) + 1), .int .i64 prev, .int .i64 slot, .int .i64 nn, .slice aK keys.length cK, .bool false, .int .i64 ee] 51 (0, 0)) from HE1.out.fb)
  obtain ⟨q0, q1, q2, q3, q4, -, -, -, -, -, qs⟩ := boxf HE1.out.m.box
  go_wp2_with (go_at_call 99; refine (HI.out _).mono ?_; rintro e w3 ⟨rfl, rfl⟩)
  refine (HCt.out _ (Foot B aS aH aF aL) (by exact ⟨_, _, _, _, _, _, _, _, HE1.out.m, fun _ h => h⟩)).mono ?_
  rintro e w2 ⟨rfl, hh2, hf2⟩
  have HE2 : Hid (Lk2 w w2 (Foot B aS aH aF aL) B lo M' ⟨c, 4, (j : Int) + 1, prev, slot, nn, keys, false, ee⟩ aK cK) := HE1.out.after hh2 hf2
  clear HE1 hh2 hf2
  clear q0 q1 q2 q3 q4 qs
  clear f0 f1 f2 f3 f4 f5 f6 f7 f8 f9 f10 f11 f12 f13 ff fs
  obtain ⟨f0, f1, f2, f3, f4, f5, f6, f7, f8, f9, f10, f11, f12, f13, ff, fs⟩ := framef (show w2.heap[w.heap.size]? = some (.cells #[.int .i64 c.kind, .int .i64 c.a, .int .i64 c.b, .int .i64 c.time, .int .i64 c.bk, .int .i64 c.slot, .int .i64 4, .int .i64 ((j : Int) + 1), .int .i64 prev, .int .i64 slot, .int .i64 nn, .slice aK keys.length cK, .bool false, .int .i64 ee] 51 (0, 0)) from HE2.out.fb)
  go_wp2_with fail
  have HE3 : Hid (Lk2 w _ (Foot B aS aH aF aL) B lo M' ⟨c, 4, (j : Int) + 1, prev, (j : Int), nn, keys, false, 0⟩ aK cK) := (HE2.out.store 9 (.int .i64 (j : Int)) ⟨c, 4, (j : Int) + 1, prev, (j : Int), nn, keys, false, ee⟩ rfl).store 13 (.int .i64 0) ⟨c, 4, (j : Int) + 1, prev, (j : Int), nn, keys, false, 0⟩ rfl
  clear HE2
  refine (drto_any ⟨c, 4, (j : Int) + 1, prev, (j : Int), nn, keys, false, 0⟩ 5 w.heap.size aK cK _ HE3.out.fb).mono ?_
  rintro e w9 ⟨rfl, hf9, hx9⟩
  have HE9 : Hid (Lk2 w w9 (Foot B aS aH aF aL) B lo M' (toF ⟨c, 4, (j : Int) + 1, prev, (j : Int), nn, keys, false, 0⟩ 5) aK cK) := HE3.out.toA hf9 hx9
  clear HE3 hf9 hx9
  clear f0 f1 f2 f3 f4 f5 f6 f7 f8 f9 f10 f11 f12 f13 ff fs
  obtain ⟨g0, g1, g2, g3, g4, g5, g6, g7, g8, g9, g10, g11, g12, g13, gf, gs⟩ := framef HE9.out.zb
  go_wp2
  refine bodyPost_ret (v := .agg #[.int .i64 ({ (⟨c, 4, (j : Int) + 1, prev, slot, nn, keys, false, ee⟩ : Fr) with slot := (j : Int), e := 0, pl := 5 }).c.kind, .int .i64 ({ (⟨c, 4, (j : Int) + 1, prev, slot, nn, keys, false, ee⟩ : Fr) with slot := (j : Int), e := 0, pl := 5 }).c.a, .int .i64 ({ (⟨c, 4, (j : Int) + 1, prev, slot, nn, keys, false, ee⟩ : Fr) with slot := (j : Int), e := 0, pl := 5 }).c.b, .int .i64 ({ (⟨c, 4, (j : Int) + 1, prev, slot, nn, keys, false, ee⟩ : Fr) with slot := (j : Int), e := 0, pl := 5 }).c.time, .int .i64 ({ (⟨c, 4, (j : Int) + 1, prev, slot, nn, keys, false, ee⟩ : Fr) with slot := (j : Int), e := 0, pl := 5 }).c.bk, .int .i64 ({ (⟨c, 4, (j : Int) + 1, prev, slot, nn, keys, false, ee⟩ : Fr) with slot := (j : Int), e := 0, pl := 5 }).c.slot, .int .i64 ({ (⟨c, 4, (j : Int) + 1, prev, slot, nn, keys, false, ee⟩ : Fr) with slot := (j : Int), e := 0, pl := 5 }).pl, .int .i64 ({ (⟨c, 4, (j : Int) + 1, prev, slot, nn, keys, false, ee⟩ : Fr) with slot := (j : Int), e := 0, pl := 5 }).cur, .int .i64 ({ (⟨c, 4, (j : Int) + 1, prev, slot, nn, keys, false, ee⟩ : Fr) with slot := (j : Int), e := 0, pl := 5 }).prev, .int .i64 ({ (⟨c, 4, (j : Int) + 1, prev, slot, nn, keys, false, ee⟩ : Fr) with slot := (j : Int), e := 0, pl := 5 }).slot, .int .i64 ({ (⟨c, 4, (j : Int) + 1, prev, slot, nn, keys, false, ee⟩ : Fr) with slot := (j : Int), e := 0, pl := 5 }).n, .slice aK ({ (⟨c, 4, (j : Int) + 1, prev, slot, nn, keys, false, ee⟩ : Fr) with slot := (j : Int), e := 0, pl := 5 }).keys.length cK, .bool ({ (⟨c, 4, (j : Int) + 1, prev, slot, nn, keys, false, ee⟩ : Fr) with slot := (j : Int), e := 0, pl := 5 }).done, .int .i64 ({ (⟨c, 4, (j : Int) + 1, prev, slot, nn, keys, false, ee⟩ : Fr) with slot := (j : Int), e := 0, pl := 5 }).e]) (by simp [results, Try.results63, go_sem, toF, g0, g1, g2, g3, g4, g5, g6, g7, g8, g9, g10, g11, g12, g13]) rfl ⟨⟨aK, cK, rfl, HR.out.fine HE9.out.end14.2 HZ.out, (fun ad h => .inl h), fun _ => ⟨rfl, rfl⟩⟩, HE9.out.end14⟩

set_option maxHeartbeats 3200000 in
theorem rdr4b (t : Int) (M : Mm) (c : Cl) (cur prev slot nn ee : Int) (keys : List (Int × Int)) (B lo : Nat) (aS aH aF aL : Option Addr) (cS cH cF cL : Nat) (aK : Option Addr) (cK : Nat) (w : World) (b : Nat)
    (m : Mine w B lo aS aH aF aL cS cH cF cL M) (HR : Hid (KRow w aK cK keys)) (HZ : Hid (∀ ad, aK = some ad → ¬ Foot B aS aH aF aL ad.block)) (hc : cur ≤ 0)
    (HBk : Hid (∀ W : World, Calls Try.prog 32 #[.agg #[.slice aS M.slots.length cS, .slice aH M.heads.length cH, .slice aF M.free.length cF, .slice aL M.locks.length cL, .int .i64 M.now], .agg #[.int .i64 c.kind, .int .i64 c.a, .int .i64 c.b, .int .i64 c.time, .int .i64 c.bk, .int .i64 c.slot]] W fun e w' => e = .returned (.int .i64 (b : Int)) ∧ Below W.heap.size W w')) :
    Calls Try.prog 63 #[.pointer (some ⟨B, 0, none⟩), .agg #[.int .i64 c.kind, .int .i64 c.a, .int .i64 c.b, .int .i64 c.time, .int .i64 c.bk, .int .i64 c.slot, .int .i64 4, .int .i64 cur, .int .i64 prev, .int .i64 slot, .int .i64 nn, .slice aK keys.length cK, .bool false, .int .i64 ee], .int .i64 t] w fun e w' => Ret w w' e (errF ⟨c, 4, cur, prev, slot, nn, keys, false, ee⟩ 8 5) aK cK ∧ Has w' B lo (Up w (Foot B aS aH aF aL)) (M) ∧ Fine w w' (Foot B aS aH aF aL) := by
  have HI : Hid (∀ W : World, Calls Try.prog 99 #[.int .i64 cur] W fun e w' => e = .returned (.bool false) ∧ W = w') := fun W => isSlotEA _ W (by rw [decide_eq_false_iff_not]; omega)
  obtain ⟨of, hof⟩ : ∃ o : Obj, o = .cells #[.int .i64 c.kind, .int .i64 c.a, .int .i64 c.b, .int .i64 c.time, .int .i64 c.bk, .int .i64 c.slot, .int .i64 4, .int .i64 cur, .int .i64 prev, .int .i64 slot, .int .i64 nn, .slice aK keys.length cK, .bool false, .int .i64 ee] 51 := ⟨_, rfl⟩
  obtain ⟨oz, hoz⟩ : ∃ o : Obj, o = zeroFr := ⟨_, rfl⟩
  have HE : Hid (Lk w ((w.alloc of).alloc oz) B lo aS aH aF aL cS cH cF cL M ⟨c, 4, cur, prev, slot, nn, keys, false, ee⟩ aK cK) := Lk.first m ⟨c, 4, cur, prev, slot, nn, keys, false, ee⟩ aK cK hof hoz
  obtain ⟨f0, f1, f2, f3, f4, f5, f6, f7, f8, f9, f10, f11, f12, f13, ff, fs⟩ := framef (show ((w.alloc of).alloc oz).heap[w.heap.size]? = some (.cells #[.int .i64 c.kind, .int .i64 c.a, .int .i64 c.b, .int .i64 c.time, .int .i64 c.bk, .int .i64 c.slot, .int .i64 4, .int .i64 cur, .int .i64 prev, .int .i64 slot, .int .i64 nn, .slice aK keys.length cK, .bool false, .int .i64 ee] 51 (0, 0)) from HE.out.fb)
  obtain ⟨q0, q1, q2, q3, q4, -, -, -, -, -, qs⟩ := boxf HE.out.m.box
  unfold zeroFr at hoz
  clear m
  go_enter Try.func63, Try.ntmps63
  go_wp2_with fail
  rw [← hof, ← hoz]
  generalize (w.alloc of).alloc oz = W0 at *
  subst hof hoz
  have cB : ∀ (d : Nat) (os : Array Obj), Calls Try.prog 32 #[.agg #[.slice aS M.slots.length cS, .slice aH M.heads.length cH, .slice aF M.free.length cF, .slice aL M.locks.length cL, .int .i64 M.now], .agg #[.int .i64 c.kind, .int .i64 c.a, .int .i64 c.b, .int .i64 c.time, .int .i64 c.bk, .int .i64 c.slot]] (grow (redrawn W0 d) os) fun e w'' => e = .returned (.int .i64 (b : Int)) ∧ ∃ p : Regrown, w'' = grow (redrawn W0 p.d) p.os := fun d os => Calls.regrown_of (HBk.out _)
  have Xq0 := cell_regrown q0
  have Xq1 := cell_regrown q1
  have Xq2 := cell_regrown q2
  have Xq3 := cell_regrown q3
  have Xq4 := cell_regrown q4
  have Xf0 := cell_regrown f0
  have Xf1 := cell_regrown f1
  have Xf2 := cell_regrown f2
  have Xf3 := cell_regrown f3
  have Xf4 := cell_regrown f4
  have Xf5 := cell_regrown f5
  clear q0 q1 q2 q3 q4 qs
  clear f0 f1 f2 f3 f4 f5 f6 f7 f8 f9 f10 f11 f12 f13 ff fs
  refine wp_region_quiet_below (by kernel_rfl) (by kernel_rfl) ?_
  repeat (quiet_step (first | exact cB _ _))
  refine wpQuiet_nil ?_
  intro _ hw'
  obtain ⟨⟨dq, osq⟩, hw''⟩ := hw'
  subst hw''
  have HE1 : Hid (Lk w (grow (redrawn W0 dq) osq) B lo aS aH aF aL cS cH cF cL M ⟨c, 4, cur, prev, slot, nn, keys, false, ee⟩ aK cK) := HE.out.below (below_regrown W0 dq osq)
  generalize grow (redrawn W0 dq) osq = w1 at *
  clear Xq0 Xq1 Xq2 Xq3 Xq4 Xf0 Xf1 Xf2 Xf3 Xf4 Xf5 HE
  clear cB HBk
  obtain ⟨f0, f1, f2, f3, f4, f5, f6, f7, f8, f9, f10, f11, f12, f13, ff, fs⟩ := framef (show w1.heap[w.heap.size]? = some (.cells #[.int .i64 c.kind, .int .i64 c.a, .int .i64 c.b, .int .i64 c.time, .int .i64 c.bk, .int .i64 c.slot, .int .i64 4, .int .i64 cur, .int .i64 prev, .int .i64 slot, .int .i64 nn, .slice aK keys.length cK, .bool false, .int .i64 ee] 51 (0, 0)) from HE1.out.fb)
  obtain ⟨q0, q1, q2, q3, q4, -, -, -, -, -, qs⟩ := boxf HE1.out.m.box
  go_wp2_with (go_at_call 99; refine (HI.out _).mono ?_; rintro e w3 ⟨rfl, rfl⟩)
  have HE2 : Hid (Lk2 w _ (Foot B aS aH aF aL) B lo M ⟨c, 4, cur, prev, slot, nn, keys, false, 8⟩ aK cK) := HE1.out.two.store 13 (.int .i64 8) ⟨c, 4, cur, prev, slot, nn, keys, false, 8⟩ rfl
  clear HE1
  refine (drto_any ⟨c, 4, cur, prev, slot, nn, keys, false, 8⟩ 5 w.heap.size aK cK _ HE2.out.fb).mono ?_
  rintro e w9 ⟨rfl, hf9, hx9⟩
  have HE9 : Hid (Lk2 w w9 (Foot B aS aH aF aL) B lo M (toF ⟨c, 4, cur, prev, slot, nn, keys, false, 8⟩ 5) aK cK) := HE2.out.toA hf9 hx9
  clear HE2 hf9 hx9
  clear q0 q1 q2 q3 q4 qs
  clear f0 f1 f2 f3 f4 f5 f6 f7 f8 f9 f10 f11 f12 f13 ff fs
  obtain ⟨g0, g1, g2, g3, g4, g5, g6, g7, g8, g9, g10, g11, g12, g13, gf, gs⟩ := framef HE9.out.zb
  go_wp2
  refine bodyPost_ret (v := .agg #[.int .i64 (errF ⟨c, 4, cur, prev, slot, nn, keys, false, ee⟩ 8 5).c.kind, .int .i64 (errF ⟨c, 4, cur, prev, slot, nn, keys, false, ee⟩ 8 5).c.a, .int .i64 (errF ⟨c, 4, cur, prev, slot, nn, keys, false, ee⟩ 8 5).c.b, .int .i64 (errF ⟨c, 4, cur, prev, slot, nn, keys, false, ee⟩ 8 5).c.time, .int .i64 (errF ⟨c, 4, cur, prev, slot, nn, keys, false, ee⟩ 8 5).c.bk, .int .i64 (errF ⟨c, 4, cur, prev, slot, nn, keys, false, ee⟩ 8 5).c.slot, .int .i64 (errF ⟨c, 4, cur, prev, slot, nn, keys, false, ee⟩ 8 5).pl, .int .i64 (errF ⟨c, 4, cur, prev, slot, nn, keys, false, ee⟩ 8 5).cur, .int .i64 (errF ⟨c, 4, cur, prev, slot, nn, keys, false, ee⟩ 8 5).prev, .int .i64 (errF ⟨c, 4, cur, prev, slot, nn, keys, false, ee⟩ 8 5).slot, .int .i64 (errF ⟨c, 4, cur, prev, slot, nn, keys, false, ee⟩ 8 5).n, .slice aK (errF ⟨c, 4, cur, prev, slot, nn, keys, false, ee⟩ 8 5).keys.length cK, .bool (errF ⟨c, 4, cur, prev, slot, nn, keys, false, ee⟩ 8 5).done, .int .i64 (errF ⟨c, 4, cur, prev, slot, nn, keys, false, ee⟩ 8 5).e]) (by simp [results, Try.results63, go_sem, errF, toF, g0, g1, g2, g3, g4, g5, g6, g7, g8, g9, g10, g11, g12, g13]) rfl ⟨⟨aK, cK, rfl, HR.out.fine HE9.out.end14.2 HZ.out, (fun ad h => .inl h), fun _ => ⟨rfl, rfl⟩⟩, HE9.out.end14⟩


end Go.Proofs.Ytdbilofhcadmoab.mm
