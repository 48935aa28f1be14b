/- The contract of the document's own LookStep: where it asks again. -/
import Derived.Test.YtdbilofhcadmoabL01
import Derived.BigRegion
namespace Go.Proofs.Ytdbilofhcadmoab.mm
open Go.ChangeShapes Go.WideShapes Go.ChangeAt Go.RowKit Go.Joins Go.Deep Go.Sort
set_option maxRecDepth 100000
set_option linter.unusedVariables false

set_option maxHeartbeats 3200000 in
theorem rstep4a (M : Mm) (c : Cl) (cur prev nn ee : Int) (keys : List (Int × Int)) (B lo : Nat) (aS aH aF aL : Option Addr) (cS cH cF cL : Nat) (aK : Option Addr) (cK : Nat) (w : World) (b : Nat)
    (m : Mine w B lo aS aH aF aL cS cH cF cL M) (HR : Hid (KRow w aK cK keys)) (HZ : Hid (∀ ad, aK = some ad → ¬ Foot B aS aH aF aL ad.block)) (j : Nat) (s : Sl) (hns : M.slots.length ≤ 12) (hj : j < M.slots.length) (hs : s = slotAt M j) (hk : lkK s ⟨c, 4, 0, 0, 0, 0, [], false, 0⟩ = false) (hin : s.inn = true)
    (HBk : Hid (∀ W : World, Calls Try.prog 32 #[.agg #[.slice aS M.slots.length cS, .slice aH M.heads.length cH, .slice aF M.free.length cF, .slice aL M.locks.length cL, .int .i64 M.now], .agg #[.int .i64 c.kind, .int .i64 c.a, .int .i64 c.b, .int .i64 c.time, .int .i64 c.bk, .int .i64 c.slot]] W fun e w' => e = .returned (.int .i64 (b : Int)) ∧ Below W.heap.size W w')) :
    Calls Try.prog 37 #[.pointer (some ⟨B, 0, none⟩), .agg #[.int .i64 c.kind, .int .i64 c.a, .int .i64 c.b, .int .i64 c.time, .int .i64 c.bk, .int .i64 c.slot, .int .i64 4, .int .i64 cur, .int .i64 prev, .int .i64 (j : Int), .int .i64 nn, .slice aK keys.length cK, .bool false, .int .i64 ee]] w fun e w' => Ret w w' e (toF ⟨c, 4, cur, prev, (j : Int), nn, keys, false, ee⟩ 5) aK cK ∧ Has w' B lo (Up w (Foot B aS aH aF aL)) (M) ∧ Fine w w' (Foot B aS aH aF aL) := by
  have se : ∀ W : World, (Op.equalIn 10000 37 (.agg #[.int .i64 s.a, .int .i64 s.b]) (.agg #[.int .i64 c.a, .int .i64 c.b])).run Try.prog W = .ok false W := fun W => by rw [kequal]; exact congrArg (fun b => Result.ok b W) hk
  clear hk
  obtain ⟨gS, rfl, oS, lS, kS, -⟩ := row_form m.c.s (by omega)
  have HX : Hid (∀ W, Mine W B lo (some ⟨gS, 0, none⟩) aH aF aL cS cH cF cL M → W.cell? ⟨gS, j * 6, none⟩ = some (.int .i64 s.refs) ∧ W.cell? ⟨gS, j * 6 + 1, none⟩ = some (.int .i64 s.a) ∧ W.cell? ⟨gS, j * 6 + 2, none⟩ = some (.int .i64 s.b) ∧
    W.cell? ⟨gS, j * 6 + 3, none⟩ = some (.int .i64 s.unt) ∧ W.cell? ⟨gS, j * 6 + 4, none⟩ = some (.bool s.inn) ∧ W.cell? ⟨gS, j * 6 + 5, none⟩ = some (.int .i64 s.next) ∧ ∀ q, W.frozen? ⟨gS, q, none⟩ = false) := fun W m' => slotAt_cells m'.c.s hj hs
  clear hs
  rw [hin] at HX
  clear hin
  have hs0 : (0 : Int) ≤ (j : Int) := by omega
  obtain ⟨of, hof⟩ : ∃ o : Obj, o = .cells #[.int .i64 c.kind, .int .i64 c.a, .int .i64 c.b, .int .i64 c.time, .int .i64 c.bk, .int .i64 c.slot, .int .i64 4, .int .i64 cur, .int .i64 prev, .int .i64 (j : Int), .int .i64 nn, .slice aK keys.length cK, .bool false, .int .i64 ee] 51 := ⟨_, rfl⟩
  obtain ⟨oz, hoz⟩ : ∃ o : Obj, o = zeroFr := ⟨_, rfl⟩
  have HE : Hid (Lk w ((w.alloc of).alloc oz) B lo (some ⟨gS, 0, none⟩) aH aF aL cS cH cF cL M ⟨c, 4, cur, prev, (j : Int), nn, keys, false, ee⟩ aK cK) := Lk.first m ⟨c, 4, cur, prev, (j : Int), nn, keys, false, ee⟩ aK cK hof hoz
  obtain ⟨f0, f1, f2, f3, f4, f5, f6, f7, f8, f9, f10, f11, f12, f13, ff, fs⟩ := framef (show ((w.alloc of).alloc oz).heap[w.heap.size]? = some (.cells #[.int .i64 c.kind, .int .i64 c.a, .int .i64 c.b, .int .i64 c.time, .int .i64 c.bk, .int .i64 c.slot, .int .i64 4, .int .i64 cur, .int .i64 prev, .int .i64 (j : Int), .int .i64 nn, .slice aK keys.length cK, .bool false, .int .i64 ee] 51 (0, 0)) from HE.out.fb)
  obtain ⟨q0, q1, q2, q3, q4, -, -, -, -, -, qs⟩ := boxf HE.out.m.box
  unfold zeroFr at hoz
  clear m
  go_enter Try.func37, Try.ntmps37
  go_wp2_with fail
  rw [← hof, ← hoz]
  generalize (w.alloc of).alloc oz = W0 at *
  subst hof hoz
  have cB : ∀ (d : Nat) (os : Array Obj), Calls Try.prog 32 #[.agg #[.slice (some ⟨gS, 0, none⟩) M.slots.length cS, .slice aH M.heads.length cH, .slice aF M.free.length cF, .slice aL M.locks.length cL, .int .i64 M.now], .agg #[.int .i64 c.kind, .int .i64 c.a, .int .i64 c.b, .int .i64 c.time, .int .i64 c.bk, .int .i64 c.slot]] (grow (redrawn W0 d) os) fun e w'' => e = .returned (.int .i64 (b : Int)) ∧ ∃ p : Regrown, w'' = grow (redrawn W0 p.d) p.os := fun d os => Calls.regrown_of (HBk.out _)
  have Q0 := cell_regrown q0; have Q1 := cell_regrown q1; have Q2 := cell_regrown q2; have Q3 := cell_regrown q3; have Q4 := cell_regrown q4
  have F0 := cell_regrown f0; have F1 := cell_regrown f1; have F2 := cell_regrown f2; have F3 := cell_regrown f3; have F4 := cell_regrown f4; have F5 := cell_regrown f5
  clear q0 q1 q2 q3 q4 qs f0 f1 f2 f3 f4 f5 f6 f7 f8 f9 f10 f11 f12 f13 ff fs
  refine wp_region_quiet_below (by kernel_rfl) (by kernel_rfl) ?_
  repeat (quiet_step (first | exact cB _ _))
  refine wpQuiet_nil ?_
  intro _ hw'
  obtain ⟨⟨dq, osq⟩, hw''⟩ := hw'
  subst hw''
  have HE1 : Hid (Lk w (grow (redrawn W0 dq) osq) B lo (some ⟨gS, 0, none⟩) aH aF aL cS cH cF cL M ⟨c, 4, cur, prev, (j : Int), nn, keys, false, ee⟩ aK cK) := HE.out.below (below_regrown W0 dq osq)
  generalize grow (redrawn W0 dq) osq = w1 at *
  clear cB Q0 Q1 Q2 Q3 Q4 F0 F1 F2 F3 F4 F5 HE HBk
  obtain ⟨f0, f1, f2, f3, f4, f5, f6, f7, f8, f9, f10, f11, f12, f13, ff, fs⟩ := framef (show w1.heap[w.heap.size]? = some (.cells #[.int .i64 c.kind, .int .i64 c.a, .int .i64 c.b, .int .i64 c.time, .int .i64 c.bk, .int .i64 c.slot, .int .i64 4, .int .i64 cur, .int .i64 prev, .int .i64 (j : Int), .int .i64 nn, .slice aK keys.length cK, .bool false, .int .i64 ee] 51 (0, 0)) from HE1.out.fb)
  obtain ⟨q0, q1, q2, q3, q4, -, -, -, -, -, qs⟩ := boxf HE1.out.m.box
  obtain ⟨x0, x1, x2, x3, x4, x5, xf⟩ := HX.out w1 HE1.out.m
  have xs : gS < w1.heap.size := cell_lt x0
  go_wp2_with fail
  go_region
  all_goals
    go_wp2_with fail
    have hb3 := one_below w1 (.cells #[.int .i64 s.refs, .int .i64 s.a, .int .i64 s.b, .int .i64 s.unt, .bool true, .int .i64 s.next] 39)
    have HE4 : Hid (Lk2 w ((w1.alloc (.cells #[.int .i64 s.refs, .int .i64 s.a, .int .i64 s.b, .int .i64 s.unt, .bool true, .int .i64 s.next] 39)).drew) (Foot B (some ⟨gS, 0, none⟩) aH aF aL) B lo M ⟨c, 4, cur, prev, (j : Int), nn, keys, false, ee⟩ aK cK) := (HE1.out.below (w2 := (w1.alloc (.cells #[.int .i64 s.refs, .int .i64 s.a, .int .i64 s.b, .int .i64 s.unt, .bool true, .int .i64 s.next] 39)).drew) ⟨hb3.os, hb3.tape, hb3.output, hb3.size, hb3.block⟩).bare
    clear HE1 hb3
    refine (rto_any ⟨c, 4, cur, prev, (j : Int), nn, keys, false, ee⟩ 5 w.heap.size aK cK _ HE4.out.fb).mono ?_
    rintro e w9 ⟨rfl, hf9, hx9⟩
    have HE9 : Hid (Lk2 w w9 (Foot B (some ⟨gS, 0, none⟩) aH aF aL) B lo M (toF ⟨c, 4, cur, prev, (j : Int), nn, keys, false, ee⟩ 5) aK cK) := HE4.out.to hf9 hx9
    clear HE4 hf9 hx9
    clear q0 q1 q2 q3 q4 qs f0 f1 f2 f3 f4 f5 f6 f7 f8 f9 f10 f11 f12 f13 ff fs
    obtain ⟨g0, g1, g2, g3, g4, g5, g6, g7, g8, g9, g10, g11, g12, g13, gf, gs⟩ := framef HE9.out.zb
    go_wp2
    refine bodyPost_ret (v := .agg #[.int .i64 (toF ⟨c, 4, cur, prev, (j : Int), nn, keys, false, ee⟩ 5).c.kind, .int .i64 (toF ⟨c, 4, cur, prev, (j : Int), nn, keys, false, ee⟩ 5).c.a, .int .i64 (toF ⟨c, 4, cur, prev, (j : Int), nn, keys, false, ee⟩ 5).c.b, .int .i64 (toF ⟨c, 4, cur, prev, (j : Int), nn, keys, false, ee⟩ 5).c.time, .int .i64 (toF ⟨c, 4, cur, prev, (j : Int), nn, keys, false, ee⟩ 5).c.bk, .int .i64 (toF ⟨c, 4, cur, prev, (j : Int), nn, keys, false, ee⟩ 5).c.slot, .int .i64 (toF ⟨c, 4, cur, prev, (j : Int), nn, keys, false, ee⟩ 5).pl, .int .i64 (toF ⟨c, 4, cur, prev, (j : Int), nn, keys, false, ee⟩ 5).cur, .int .i64 (toF ⟨c, 4, cur, prev, (j : Int), nn, keys, false, ee⟩ 5).prev, .int .i64 (toF ⟨c, 4, cur, prev, (j : Int), nn, keys, false, ee⟩ 5).slot, .int .i64 (toF ⟨c, 4, cur, prev, (j : Int), nn, keys, false, ee⟩ 5).n, .slice aK (toF ⟨c, 4, cur, prev, (j : Int), nn, keys, false, ee⟩ 5).keys.length cK, .bool (toF ⟨c, 4, cur, prev, (j : Int), nn, keys, false, ee⟩ 5).done, .int .i64 (toF ⟨c, 4, cur, prev, (j : Int), nn, keys, false, ee⟩ 5).e]) (by simp [results, Try.results37, go_sem, toF, g0, g1, g2, g3, g4, g5, g6, g7, g8, g9, g10, g11, g12, g13]) rfl ⟨⟨aK, cK, rfl, HR.out.fine HE9.out.end14.2 HZ.out, (fun ad h => .inl h), fun _ => ⟨rfl, rfl⟩⟩, HE9.out.end14⟩

set_option maxHeartbeats 3200000 in
theorem rstep4b (M : Mm) (c : Cl) (cur prev nn ee : Int) (keys : List (Int × Int)) (B lo : Nat) (aS aH aF aL : Option Addr) (cS cH cF cL : Nat) (aK : Option Addr) (cK : Nat) (w : World) (b : Nat)
    (m : Mine w B lo aS aH aF aL cS cH cF cL M) (HR : Hid (KRow w aK cK keys)) (HZ : Hid (∀ ad, aK = some ad → ¬ Foot B aS aH aF aL ad.block)) (kk : Bool) (j : Nat) (s : Sl) (hns : M.slots.length ≤ 12) (hj : j < M.slots.length) (hs : s = slotAt M j) (hk : lkK s ⟨c, 4, 0, 0, 0, 0, [], false, 0⟩ = kk) (hin : s.inn = false)
    (HBk : Hid (∀ W : World, Calls Try.prog 32 #[.agg #[.slice aS M.slots.length cS, .slice aH M.heads.length cH, .slice aF M.free.length cF, .slice aL M.locks.length cL, .int .i64 M.now], .agg #[.int .i64 c.kind, .int .i64 c.a, .int .i64 c.b, .int .i64 c.time, .int .i64 c.bk, .int .i64 c.slot]] W fun e w' => e = .returned (.int .i64 (b : Int)) ∧ Below W.heap.size W w')) :
    Calls Try.prog 37 #[.pointer (some ⟨B, 0, none⟩), .agg #[.int .i64 c.kind, .int .i64 c.a, .int .i64 c.b, .int .i64 c.time, .int .i64 c.bk, .int .i64 c.slot, .int .i64 4, .int .i64 cur, .int .i64 prev, .int .i64 (j : Int), .int .i64 nn, .slice aK keys.length cK, .bool false, .int .i64 ee]] w fun e w' => Ret w w' e (toF ⟨c, 4, cur, prev, (j : Int), nn, keys, false, ee⟩ 5) aK cK ∧ Has w' B lo (Up w (Foot B aS aH aF aL)) (M) ∧ Fine w w' (Foot B aS aH aF aL) := by
  have se : ∀ W : World, (Op.equalIn 10000 37 (.agg #[.int .i64 s.a, .int .i64 s.b]) (.agg #[.int .i64 c.a, .int .i64 c.b])).run Try.prog W = .ok kk W := fun W => by rw [kequal]; exact congrArg (fun b => Result.ok b W) hk
  clear hk
  obtain ⟨gS, rfl, oS, lS, kS, -⟩ := row_form m.c.s (by omega)
  have HX : Hid (∀ W, Mine W B lo (some ⟨gS, 0, none⟩) aH aF aL cS cH cF cL M → W.cell? ⟨gS, j * 6, none⟩ = some (.int .i64 s.refs) ∧ W.cell? ⟨gS, j * 6 + 1, none⟩ = some (.int .i64 s.a) ∧ W.cell? ⟨gS, j * 6 + 2, none⟩ = some (.int .i64 s.b) ∧
    W.cell? ⟨gS, j * 6 + 3, none⟩ = some (.int .i64 s.unt) ∧ W.cell? ⟨gS, j * 6 + 4, none⟩ = some (.bool s.inn) ∧ W.cell? ⟨gS, j * 6 + 5, none⟩ = some (.int .i64 s.next) ∧ ∀ q, W.frozen? ⟨gS, q, none⟩ = false) := fun W m' => slotAt_cells m'.c.s hj hs
  clear hs
  rw [hin] at HX
  clear hin
  have hs0 : (0 : Int) ≤ (j : Int) := by omega
  obtain ⟨of, hof⟩ : ∃ o : Obj, o = .cells #[.int .i64 c.kind, .int .i64 c.a, .int .i64 c.b, .int .i64 c.time, .int .i64 c.bk, .int .i64 c.slot, .int .i64 4, .int .i64 cur, .int .i64 prev, .int .i64 (j : Int), .int .i64 nn, .slice aK keys.length cK, .bool false, .int .i64 ee] 51 := ⟨_, rfl⟩
  obtain ⟨oz, hoz⟩ : ∃ o : Obj, o = zeroFr := ⟨_, rfl⟩
  have HE : Hid (Lk w ((w.alloc of).alloc oz) B lo (some ⟨gS, 0, none⟩) aH aF aL cS cH cF cL M ⟨c, 4, cur, prev, (j : Int), nn, keys, false, ee⟩ aK cK) := Lk.first m ⟨c, 4, cur, prev, (j : Int), nn, keys, false, ee⟩ aK cK hof hoz
  obtain ⟨f0, f1, f2, f3, f4, f5, f6, f7, f8, f9, f10, f11, f12, f13, ff, fs⟩ := framef (show ((w.alloc of).alloc oz).heap[w.heap.size]? = some (.cells #[.int .i64 c.kind, .int .i64 c.a, .int .i64 c.b, .int .i64 c.time, .int .i64 c.bk, .int .i64 c.slot, .int .i64 4, .int .i64 cur, .int .i64 prev, .int .i64 (j : Int), .int .i64 nn, .slice aK keys.length cK, .bool false, .int .i64 ee] 51 (0, 0)) from HE.out.fb)
  obtain ⟨q0, q1, q2, q3, q4, -, -, -, -, -, qs⟩ := boxf HE.out.m.box
  unfold zeroFr at hoz
  clear m
  go_enter Try.func37, Try.ntmps37
  go_wp2_with fail
  rw [← hof, ← hoz]
  generalize (w.alloc of).alloc oz = W0 at *
  subst hof hoz
  have cB : ∀ (d : Nat) (os : Array Obj), Calls Try.prog 32 #[.agg #[.slice (some ⟨gS, 0, none⟩) M.slots.length cS, .slice aH M.heads.length cH, .slice aF M.free.length cF, .slice aL M.locks.length cL, .int .i64 M.now], .agg #[.int .i64 c.kind, .int .i64 c.a, .int .i64 c.b, .int .i64 c.time, .int .i64 c.bk, .int .i64 c.slot]] (grow (redrawn W0 d) os) fun e w'' => e = .returned (.int .i64 (b : Int)) ∧ ∃ p : Regrown, w'' = grow (redrawn W0 p.d) p.os := fun d os => Calls.regrown_of (HBk.out _)
  have Q0 := cell_regrown q0; have Q1 := cell_regrown q1; have Q2 := cell_regrown q2; have Q3 := cell_regrown q3; have Q4 := cell_regrown q4
  have F0 := cell_regrown f0; have F1 := cell_regrown f1; have F2 := cell_regrown f2; have F3 := cell_regrown f3; have F4 := cell_regrown f4; have F5 := cell_regrown f5
  clear q0 q1 q2 q3 q4 qs f0 f1 f2 f3 f4 f5 f6 f7 f8 f9 f10 f11 f12 f13 ff fs
  refine wp_region_quiet_below (by kernel_rfl) (by kernel_rfl) ?_
  repeat (quiet_step (first | exact cB _ _))
  refine wpQuiet_nil ?_
  intro _ hw'
  obtain ⟨⟨dq, osq⟩, hw''⟩ := hw'
  subst hw''
  have HE1 : Hid (Lk w (grow (redrawn W0 dq) osq) B lo (some ⟨gS, 0, none⟩) aH aF aL cS cH cF cL M ⟨c, 4, cur, prev, (j : Int), nn, keys, false, ee⟩ aK cK) := HE.out.below (below_regrown W0 dq osq)
  generalize grow (redrawn W0 dq) osq = w1 at *
  clear cB Q0 Q1 Q2 Q3 Q4 F0 F1 F2 F3 F4 F5 HE HBk
  obtain ⟨f0, f1, f2, f3, f4, f5, f6, f7, f8, f9, f10, f11, f12, f13, ff, fs⟩ := framef (show w1.heap[w.heap.size]? = some (.cells #[.int .i64 c.kind, .int .i64 c.a, .int .i64 c.b, .int .i64 c.time, .int .i64 c.bk, .int .i64 c.slot, .int .i64 4, .int .i64 cur, .int .i64 prev, .int .i64 (j : Int), .int .i64 nn, .slice aK keys.length cK, .bool false, .int .i64 ee] 51 (0, 0)) from HE1.out.fb)
  obtain ⟨q0, q1, q2, q3, q4, -, -, -, -, -, qs⟩ := boxf HE1.out.m.box
  obtain ⟨x0, x1, x2, x3, x4, x5, xf⟩ := HX.out w1 HE1.out.m
  have xs : gS < w1.heap.size := cell_lt x0
  go_wp2_with fail
  go_region
  all_goals
    go_wp2_with fail
    have hb3 := one_below w1 (.cells #[.int .i64 s.refs, .int .i64 s.a, .int .i64 s.b, .int .i64 s.unt, .bool false, .int .i64 s.next] 39)
    have HE4 : Hid (Lk2 w ((w1.alloc (.cells #[.int .i64 s.refs, .int .i64 s.a, .int .i64 s.b, .int .i64 s.unt, .bool false, .int .i64 s.next] 39)).drew) (Foot B (some ⟨gS, 0, none⟩) aH aF aL) B lo M ⟨c, 4, cur, prev, (j : Int), nn, keys, false, ee⟩ aK cK) := (HE1.out.below (w2 := (w1.alloc (.cells #[.int .i64 s.refs, .int .i64 s.a, .int .i64 s.b, .int .i64 s.unt, .bool false, .int .i64 s.next] 39)).drew) ⟨hb3.os, hb3.tape, hb3.output, hb3.size, hb3.block⟩).bare
    clear HE1 hb3
    refine (rto_any ⟨c, 4, cur, prev, (j : Int), nn, keys, false, ee⟩ 5 w.heap.size aK cK _ HE4.out.fb).mono ?_
    rintro e w9 ⟨rfl, hf9, hx9⟩
    have HE9 : Hid (Lk2 w w9 (Foot B (some ⟨gS, 0, none⟩) aH aF aL) B lo M (toF ⟨c, 4, cur, prev, (j : Int), nn, keys, false, ee⟩ 5) aK cK) := HE4.out.to hf9 hx9
    clear HE4 hf9 hx9
    clear q0 q1 q2 q3 q4 qs f0 f1 f2 f3 f4 f5 f6 f7 f8 f9 f10 f11 f12 f13 ff fs
    obtain ⟨g0, g1, g2, g3, g4, g5, g6, g7, g8, g9, g10, g11, g12, g13, gf, gs⟩ := framef HE9.out.zb
    go_wp2
    refine bodyPost_ret (v := .agg #[.int .i64 (toF ⟨c, 4, cur, prev, (j : Int), nn, keys, false, ee⟩ 5).c.kind, .int .i64 (toF ⟨c, 4, cur, prev, (j : Int), nn, keys, false, ee⟩ 5).c.a, .int .i64 (toF ⟨c, 4, cur, prev, (j : Int), nn, keys, false, ee⟩ 5).c.b, .int .i64 (toF ⟨c, 4, cur, prev, (j : Int), nn, keys, false, ee⟩ 5).c.time, .int .i64 (toF ⟨c, 4, cur, prev, (j : Int), nn, keys, false, ee⟩ 5).c.bk, .int .i64 (toF ⟨c, 4, cur, prev, (j : Int), nn, keys, false, ee⟩ 5).c.slot, .int .i64 (toF ⟨c, 4, cur, prev, (j : Int), nn, keys, false, ee⟩ 5).pl, .int .i64 (toF ⟨c, 4, cur, prev, (j : Int), nn, keys, false, ee⟩ 5).cur, .int .i64 (toF ⟨c, 4, cur, prev, (j : Int), nn, keys, false, ee⟩ 5).prev, .int .i64 (toF ⟨c, 4, cur, prev, (j : Int), nn, keys, false, ee⟩ 5).slot, .int .i64 (toF ⟨c, 4, cur, prev, (j : Int), nn, keys, false, ee⟩ 5).n, .slice aK (toF ⟨c, 4, cur, prev, (j : Int), nn, keys, false, ee⟩ 5).keys.length cK, .bool (toF ⟨c, 4, cur, prev, (j : Int), nn, keys, false, ee⟩ 5).done, .int .i64 (toF ⟨c, 4, cur, prev, (j : Int), nn, keys, false, ee⟩ 5).e]) (by simp [results, Try.results37, go_sem, toF, g0, g1, g2, g3, g4, g5, g6, g7, g8, g9, g10, g11, g12, g13]) rfl ⟨⟨aK, cK, rfl, HR.out.fine HE9.out.end14.2 HZ.out, (fun ad h => .inl h), fun _ => ⟨rfl, rfl⟩⟩, HE9.out.end14⟩

set_option maxHeartbeats 3200000 in
theorem rstep4c (M : Mm) (c : Cl) (cur prev nn ee : Int) (keys : List (Int × Int)) (B lo : Nat) (aS aH aF aL : Option Addr) (cS cH cF cL : Nat) (aK : Option Addr) (cK : Nat) (w : World) (b : Nat)
    (m : Mine w B lo aS aH aF aL cS cH cF cL M) (HR : Hid (KRow w aK cK keys)) (HZ : Hid (∀ ad, aK = some ad → ¬ Foot B aS aH aF aL ad.block)) (j : Nat) (s : Sl) (hns : M.slots.length ≤ 12) (hj : j < M.slots.length) (hs : s = slotAt M j) (hk : lkK s ⟨c, 4, 0, 0, 0, 0, [], false, 0⟩ = true) (hin : s.inn = true) (hu : M.now < s.unt)
    (HBk : Hid (∀ W : World, Calls Try.prog 32 #[.agg #[.slice aS M.slots.length cS, .slice aH M.heads.length cH, .slice aF M.free.length cF, .slice aL M.locks.length cL, .int .i64 M.now], .agg #[.int .i64 c.kind, .int .i64 c.a, .int .i64 c.b, .int .i64 c.time, .int .i64 c.bk, .int .i64 c.slot]] W fun e w' => e = .returned (.int .i64 (b : Int)) ∧ Below W.heap.size W w')) :
    Calls Try.prog 37 #[.pointer (some ⟨B, 0, none⟩), .agg #[.int .i64 c.kind, .int .i64 c.a, .int .i64 c.b, .int .i64 c.time, .int .i64 c.bk, .int .i64 c.slot, .int .i64 4, .int .i64 cur, .int .i64 prev, .int .i64 (j : Int), .int .i64 nn, .slice aK keys.length cK, .bool false, .int .i64 ee]] w fun e w' => Ret w w' e (endF ⟨c, 4, cur, prev, (j : Int), nn, keys, false, ee⟩ 0) aK cK ∧ Has w' B lo (Up w (Foot B aS aH aF aL)) (M) ∧ Fine w w' (Foot B aS aH aF aL) := by
  have se : ∀ W : World, (Op.equalIn 10000 37 (.agg #[.int .i64 s.a, .int .i64 s.b]) (.agg #[.int .i64 c.a, .int .i64 c.b])).run Try.prog W = .ok true W := fun W => by rw [kequal]; exact congrArg (fun b => Result.ok b W) hk
  clear hk
  have hu1 : ¬ s.unt ≤ M.now := by omega
  obtain ⟨gS, rfl, oS, lS, kS, -⟩ := row_form m.c.s (by omega)
  have HX : Hid (∀ W, Mine W B lo (some ⟨gS, 0, none⟩) aH aF aL cS cH cF cL M → W.cell? ⟨gS, j * 6, none⟩ = some (.int .i64 s.refs) ∧ W.cell? ⟨gS, j * 6 + 1, none⟩ = some (.int .i64 s.a) ∧ W.cell? ⟨gS, j * 6 + 2, none⟩ = some (.int .i64 s.b) ∧
    W.cell? ⟨gS, j * 6 + 3, none⟩ = some (.int .i64 s.unt) ∧ W.cell? ⟨gS, j * 6 + 4, none⟩ = some (.bool s.inn) ∧ W.cell? ⟨gS, j * 6 + 5, none⟩ = some (.int .i64 s.next) ∧ ∀ q, W.frozen? ⟨gS, q, none⟩ = false) := fun W m' => slotAt_cells m'.c.s hj hs
  clear hs
  rw [hin] at HX
  clear hin
  have hs0 : (0 : Int) ≤ (j : Int) := by omega
  obtain ⟨of, hof⟩ : ∃ o : Obj, o = .cells #[.int .i64 c.kind, .int .i64 c.a, .int .i64 c.b, .int .i64 c.time, .int .i64 c.bk, .int .i64 c.slot, .int .i64 4, .int .i64 cur, .int .i64 prev, .int .i64 (j : Int), .int .i64 nn, .slice aK keys.length cK, .bool false, .int .i64 ee] 51 := ⟨_, rfl⟩
  obtain ⟨oz, hoz⟩ : ∃ o : Obj, o = zeroFr := ⟨_, rfl⟩
  have HE : Hid (Lk w ((w.alloc of).alloc oz) B lo (some ⟨gS, 0, none⟩) aH aF aL cS cH cF cL M ⟨c, 4, cur, prev, (j : Int), nn, keys, false, ee⟩ aK cK) := Lk.first m ⟨c, 4, cur, prev, (j : Int), nn, keys, false, ee⟩ aK cK hof hoz
  obtain ⟨f0, f1, f2, f3, f4, f5, f6, f7, f8, f9, f10, f11, f12, f13, ff, fs⟩ := framef (show ((w.alloc of).alloc oz).heap[w.heap.size]? = some (.cells #[.int .i64 c.kind, .int .i64 c.a, .int .i64 c.b, .int .i64 c.time, .int .i64 c.bk, .int .i64 c.slot, .int .i64 4, .int .i64 cur, .int .i64 prev, .int .i64 (j : Int), .int .i64 nn, .slice aK keys.length cK, .bool false, .int .i64 ee] 51 (0, 0)) from HE.out.fb)
  obtain ⟨q0, q1, q2, q3, q4, -, -, -, -, -, qs⟩ := boxf HE.out.m.box
  unfold zeroFr at hoz
  clear m
  go_enter Try.func37, Try.ntmps37
  go_wp2_with fail
  rw [← hof, ← hoz]
  generalize (w.alloc of).alloc oz = W0 at *
  subst hof hoz
  have cB : ∀ (d : Nat) (os : Array Obj), Calls Try.prog 32 #[.agg #[.slice (some ⟨gS, 0, none⟩) M.slots.length cS, .slice aH M.heads.length cH, .slice aF M.free.length cF, .slice aL M.locks.length cL, .int .i64 M.now], .agg #[.int .i64 c.kind, .int .i64 c.a, .int .i64 c.b, .int .i64 c.time, .int .i64 c.bk, .int .i64 c.slot]] (grow (redrawn W0 d) os) fun e w'' => e = .returned (.int .i64 (b : Int)) ∧ ∃ p : Regrown, w'' = grow (redrawn W0 p.d) p.os := fun d os => Calls.regrown_of (HBk.out _)
  have Q0 := cell_regrown q0; have Q1 := cell_regrown q1; have Q2 := cell_regrown q2; have Q3 := cell_regrown q3; have Q4 := cell_regrown q4
  have F0 := cell_regrown f0; have F1 := cell_regrown f1; have F2 := cell_regrown f2; have F3 := cell_regrown f3; have F4 := cell_regrown f4; have F5 := cell_regrown f5
  clear q0 q1 q2 q3 q4 qs f0 f1 f2 f3 f4 f5 f6 f7 f8 f9 f10 f11 f12 f13 ff fs
  refine wp_region_quiet_below (by kernel_rfl) (by kernel_rfl) ?_
  repeat (quiet_step (first | exact cB _ _))
  refine wpQuiet_nil ?_
  intro _ hw'
  obtain ⟨⟨dq, osq⟩, hw''⟩ := hw'
  subst hw''
  have HE1 : Hid (Lk w (grow (redrawn W0 dq) osq) B lo (some ⟨gS, 0, none⟩) aH aF aL cS cH cF cL M ⟨c, 4, cur, prev, (j : Int), nn, keys, false, ee⟩ aK cK) := HE.out.below (below_regrown W0 dq osq)
  generalize grow (redrawn W0 dq) osq = w1 at *
  clear cB Q0 Q1 Q2 Q3 Q4 F0 F1 F2 F3 F4 F5 HE HBk
  obtain ⟨f0, f1, f2, f3, f4, f5, f6, f7, f8, f9, f10, f11, f12, f13, ff, fs⟩ := framef (show w1.heap[w.heap.size]? = some (.cells #[.int .i64 c.kind, .int .i64 c.a, .int .i64 c.b, .int .i64 c.time, .int .i64 c.bk, .int .i64 c.slot, .int .i64 4, .int .i64 cur, .int .i64 prev, .int .i64 (j : Int), .int .i64 nn, .slice aK keys.length cK, .bool false, .int .i64 ee] 51 (0, 0)) from HE1.out.fb)
  obtain ⟨q0, q1, q2, q3, q4, -, -, -, -, -, qs⟩ := boxf HE1.out.m.box
  obtain ⟨x0, x1, x2, x3, x4, x5, xf⟩ := HX.out w1 HE1.out.m
  have xs : gS < w1.heap.size := cell_lt x0
  go_wp2_with fail
  go_region
  all_goals
    go_wp2_with fail
    go_quiet (fail)
    go_wp2_with fail
    have hb3 := one_below w1 (.cells #[.int .i64 s.refs, .int .i64 s.a, .int .i64 s.b, .int .i64 s.unt, .bool true, .int .i64 s.next] 39)
    have HE4 : Hid (Lk2 w ((w1.alloc (.cells #[.int .i64 s.refs, .int .i64 s.a, .int .i64 s.b, .int .i64 s.unt, .bool true, .int .i64 s.next] 39)).drewN (1 + nq)) (Foot B (some ⟨gS, 0, none⟩) aH aF aL) B lo M ⟨c, 4, cur, prev, (j : Int), nn, keys, false, ee⟩ aK cK) := (HE1.out.below (w2 := (w1.alloc (.cells #[.int .i64 s.refs, .int .i64 s.a, .int .i64 s.b, .int .i64 s.unt, .bool true, .int .i64 s.next] 39)).drewN (1 + nq)) ⟨hb3.os, hb3.tape, hb3.output, hb3.size, hb3.block⟩).bare
    clear HE1 hb3
    refine (over_any ⟨c, 4, cur, prev, (j : Int), nn, keys, false, ee⟩ 0 aK cK _).mono ?_
    rintro e w9 ⟨rfl, hb9⟩
    have HE9 : Hid (Lk2 w w9 (Foot B (some ⟨gS, 0, none⟩) aH aF aL) B lo M ⟨c, 4, cur, prev, (j : Int), nn, keys, false, ee⟩ aK cK) := HE4.out.below hb9
    clear HE4 hb9
    clear q0 q1 q2 q3 q4 qs f0 f1 f2 f3 f4 f5 f6 f7 f8 f9 f10 f11 f12 f13 ff fs
    obtain ⟨g0, g1, g2, g3, g4, g5, g6, g7, g8, g9, g10, g11, g12, g13, gf, gs⟩ := framef HE9.out.zb
    go_wp2
    refine bodyPost_ret (v := .agg #[.int .i64 (endF ⟨c, 4, cur, prev, (j : Int), nn, keys, false, ee⟩ 0).c.kind, .int .i64 (endF ⟨c, 4, cur, prev, (j : Int), nn, keys, false, ee⟩ 0).c.a, .int .i64 (endF ⟨c, 4, cur, prev, (j : Int), nn, keys, false, ee⟩ 0).c.b, .int .i64 (endF ⟨c, 4, cur, prev, (j : Int), nn, keys, false, ee⟩ 0).c.time, .int .i64 (endF ⟨c, 4, cur, prev, (j : Int), nn, keys, false, ee⟩ 0).c.bk, .int .i64 (endF ⟨c, 4, cur, prev, (j : Int), nn, keys, false, ee⟩ 0).c.slot, .int .i64 (endF ⟨c, 4, cur, prev, (j : Int), nn, keys, false, ee⟩ 0).pl, .int .i64 (endF ⟨c, 4, cur, prev, (j : Int), nn, keys, false, ee⟩ 0).cur, .int .i64 (endF ⟨c, 4, cur, prev, (j : Int), nn, keys, false, ee⟩ 0).prev, .int .i64 (endF ⟨c, 4, cur, prev, (j : Int), nn, keys, false, ee⟩ 0).slot, .int .i64 (endF ⟨c, 4, cur, prev, (j : Int), nn, keys, false, ee⟩ 0).n, .slice aK (endF ⟨c, 4, cur, prev, (j : Int), nn, keys, false, ee⟩ 0).keys.length cK, .bool (endF ⟨c, 4, cur, prev, (j : Int), nn, keys, false, ee⟩ 0).done, .int .i64 (endF ⟨c, 4, cur, prev, (j : Int), nn, keys, false, ee⟩ 0).e]) (by simp [results, Try.results37, go_sem, endF, g0, g1, g2, g3, g4, g5, g6, g7, g8, g9, g10, g11, g12, g13]) rfl ⟨⟨aK, cK, rfl, HR.out.fine HE9.out.end14.2 HZ.out, (fun ad h => .inl h), fun _ => ⟨rfl, rfl⟩⟩, HE9.out.end14⟩

set_option maxHeartbeats 3200000 in
theorem rstep4d (M : Mm) (c : Cl) (cur prev nn ee : Int) (keys : List (Int × Int)) (B lo : Nat) (aS aH aF aL : Option Addr) (cS cH cF cL : Nat) (aK : Option Addr) (cK : Nat) (w : World) (b : Nat)
    (m : Mine w B lo aS aH aF aL cS cH cF cL M) (HR : Hid (KRow w aK cK keys)) (HZ : Hid (∀ ad, aK = some ad → ¬ Foot B aS aH aF aL ad.block)) (j : Nat) (s : Sl) (hns : M.slots.length ≤ 12) (hj : j < M.slots.length) (hs : s = slotAt M j) (hk : lkK s ⟨c, 4, 0, 0, 0, 0, [], false, 0⟩ = true) (hin : s.inn = true) (hu : s.unt ≤ M.now)
    (HBk : Hid (∀ W : World, Calls Try.prog 32 #[.agg #[.slice aS M.slots.length cS, .slice aH M.heads.length cH, .slice aF M.free.length cF, .slice aL M.locks.length cL, .int .i64 M.now], .agg #[.int .i64 c.kind, .int .i64 c.a, .int .i64 c.b, .int .i64 c.time, .int .i64 c.bk, .int .i64 c.slot]] W fun e w' => e = .returned (.int .i64 (b : Int)) ∧ Below W.heap.size W w')) :
    Calls Try.prog 37 #[.pointer (some ⟨B, 0, none⟩), .agg #[.int .i64 c.kind, .int .i64 c.a, .int .i64 c.b, .int .i64 c.time, .int .i64 c.bk, .int .i64 c.slot, .int .i64 4, .int .i64 cur, .int .i64 prev, .int .i64 (j : Int), .int .i64 nn, .slice aK keys.length cK, .bool false, .int .i64 ee]] w fun e w' => Ret w w' e (toF ⟨c, 4, cur, prev, (j : Int), nn, keys, false, ee⟩ 6) aK cK ∧ Has w' B lo (Up w (Foot B aS aH aF aL)) (M) ∧ Fine w w' (Foot B aS aH aF aL) := by
  have se : ∀ W : World, (Op.equalIn 10000 37 (.agg #[.int .i64 s.a, .int .i64 s.b]) (.agg #[.int .i64 c.a, .int .i64 c.b])).run Try.prog W = .ok true W := fun W => by rw [kequal]; exact congrArg (fun b => Result.ok b W) hk
  clear hk
  have hu1 : ¬ M.now < s.unt := by omega
  obtain ⟨gS, rfl, oS, lS, kS, -⟩ := row_form m.c.s (by omega)
  have HX : Hid (∀ W, Mine W B lo (some ⟨gS, 0, none⟩) aH aF aL cS cH cF cL M → W.cell? ⟨gS, j * 6, none⟩ = some (.int .i64 s.refs) ∧ W.cell? ⟨gS, j * 6 + 1, none⟩ = some (.int .i64 s.a) ∧ W.cell? ⟨gS, j * 6 + 2, none⟩ = some (.int .i64 s.b) ∧
    W.cell? ⟨gS, j * 6 + 3, none⟩ = some (.int .i64 s.unt) ∧ W.cell? ⟨gS, j * 6 + 4, none⟩ = some (.bool s.inn) ∧ W.cell? ⟨gS, j * 6 + 5, none⟩ = some (.int .i64 s.next) ∧ ∀ q, W.frozen? ⟨gS, q, none⟩ = false) := fun W m' => slotAt_cells m'.c.s hj hs
  clear hs
  rw [hin] at HX
  clear hin
  have hs0 : (0 : Int) ≤ (j : Int) := by omega
  obtain ⟨of, hof⟩ : ∃ o : Obj, o = .cells #[.int .i64 c.kind, .int .i64 c.a, .int .i64 c.b, .int .i64 c.time, .int .i64 c.bk, .int .i64 c.slot, .int .i64 4, .int .i64 cur, .int .i64 prev, .int .i64 (j : Int), .int .i64 nn, .slice aK keys.length cK, .bool false, .int .i64 ee] 51 := ⟨_, rfl⟩
  obtain ⟨oz, hoz⟩ : ∃ o : Obj, o = zeroFr := ⟨_, rfl⟩
  have HE : Hid (Lk w ((w.alloc of).alloc oz) B lo (some ⟨gS, 0, none⟩) aH aF aL cS cH cF cL M ⟨c, 4, cur, prev, (j : Int), nn, keys, false, ee⟩ aK cK) := Lk.first m ⟨c, 4, cur, prev, (j : Int), nn, keys, false, ee⟩ aK cK hof hoz
  obtain ⟨f0, f1, f2, f3, f4, f5, f6, f7, f8, f9, f10, f11, f12, f13, ff, fs⟩ := framef (show ((w.alloc of).alloc oz).heap[w.heap.size]? = some (.cells #[.int .i64 c.kind, .int .i64 c.a, .int .i64 c.b, .int .i64 c.time, .int .i64 c.bk, .int .i64 c.slot, .int .i64 4, .int .i64 cur, .int .i64 prev, .int .i64 (j : Int), .int .i64 nn, .slice aK keys.length cK, .bool false, .int .i64 ee] 51 (0, 0)) from HE.out.fb)
  obtain ⟨q0, q1, q2, q3, q4, -, -, -, -, -, qs⟩ := boxf HE.out.m.box
  unfold zeroFr at hoz
  clear m
  go_enter Try.func37, Try.ntmps37
  go_wp2_with fail
  rw [← hof, ← hoz]
  generalize (w.alloc of).alloc oz = W0 at *
  subst hof hoz
  have cB : ∀ (d : Nat) (os : Array Obj), Calls Try.prog 32 #[.agg #[.slice (some ⟨gS, 0, none⟩) M.slots.length cS, .slice aH M.heads.length cH, .slice aF M.free.length cF, .slice aL M.locks.length cL, .int .i64 M.now], .agg #[.int .i64 c.kind, .int .i64 c.a, .int .i64 c.b, .int .i64 c.time, .int .i64 c.bk, .int .i64 c.slot]] (grow (redrawn W0 d) os) fun e w'' => e = .returned (.int .i64 (b : Int)) ∧ ∃ p : Regrown, w'' = grow (redrawn W0 p.d) p.os := fun d os => Calls.regrown_of (HBk.out _)
  have Q0 := cell_regrown q0; have Q1 := cell_regrown q1; have Q2 := cell_regrown q2; have Q3 := cell_regrown q3; have Q4 := cell_regrown q4
  have F0 := cell_regrown f0; have F1 := cell_regrown f1; have F2 := cell_regrown f2; have F3 := cell_regrown f3; have F4 := cell_regrown f4; have F5 := cell_regrown f5
  clear q0 q1 q2 q3 q4 qs f0 f1 f2 f3 f4 f5 f6 f7 f8 f9 f10 f11 f12 f13 ff fs
  refine wp_region_quiet_below (by kernel_rfl) (by kernel_rfl) ?_
  repeat (quiet_step (first | exact cB _ _))
  refine wpQuiet_nil ?_
  intro _ hw'
  obtain ⟨⟨dq, osq⟩, hw''⟩ := hw'
  subst hw''
  have HE1 : Hid (Lk w (grow (redrawn W0 dq) osq) B lo (some ⟨gS, 0, none⟩) aH aF aL cS cH cF cL M ⟨c, 4, cur, prev, (j : Int), nn, keys, false, ee⟩ aK cK) := HE.out.below (below_regrown W0 dq osq)
  generalize grow (redrawn W0 dq) osq = w1 at *
  clear cB Q0 Q1 Q2 Q3 Q4 F0 F1 F2 F3 F4 F5 HE HBk
  obtain ⟨f0, f1, f2, f3, f4, f5, f6, f7, f8, f9, f10, f11, f12, f13, ff, fs⟩ := framef (show w1.heap[w.heap.size]? = some (.cells #[.int .i64 c.kind, .int .i64 c.a, .int .i64 c.b, .int .i64 c.time, .int .i64 c.bk, .int .i64 c.slot, .int .i64 4, .int .i64 cur, .int .i64 prev, .int .i64 (j : Int), .int .i64 nn, .slice aK keys.length cK, .bool false, .int .i64 ee] 51 (0, 0)) from HE1.out.fb)
  obtain ⟨q0, q1, q2, q3, q4, -, -, -, -, -, qs⟩ := boxf HE1.out.m.box
  obtain ⟨x0, x1, x2, x3, x4, x5, xf⟩ := HX.out w1 HE1.out.m
  have xs : gS < w1.heap.size := cell_lt x0
  go_wp2_with fail
  go_region
  all_goals
    go_wp2_with fail
    go_quiet (fail)
    go_wp2_with fail
    have hb3 := one_below w1 (.cells #[.int .i64 s.refs, .int .i64 s.a, .int .i64 s.b, .int .i64 s.unt, .bool true, .int .i64 s.next] 39)
    have HE4 : Hid (Lk2 w ((w1.alloc (.cells #[.int .i64 s.refs, .int .i64 s.a, .int .i64 s.b, .int .i64 s.unt, .bool true, .int .i64 s.next] 39)).drewN (1 + nq)) (Foot B (some ⟨gS, 0, none⟩) aH aF aL) B lo M ⟨c, 4, cur, prev, (j : Int), nn, keys, false, ee⟩ aK cK) := (HE1.out.below (w2 := (w1.alloc (.cells #[.int .i64 s.refs, .int .i64 s.a, .int .i64 s.b, .int .i64 s.unt, .bool true, .int .i64 s.next] 39)).drewN (1 + nq)) ⟨hb3.os, hb3.tape, hb3.output, hb3.size, hb3.block⟩).bare
    clear HE1 hb3
    refine (rto_any ⟨c, 4, cur, prev, (j : Int), nn, keys, false, ee⟩ 6 w.heap.size aK cK _ HE4.out.fb).mono ?_
    rintro e w9 ⟨rfl, hf9, hx9⟩
    have HE9 : Hid (Lk2 w w9 (Foot B (some ⟨gS, 0, none⟩) aH aF aL) B lo M (toF ⟨c, 4, cur, prev, (j : Int), nn, keys, false, ee⟩ 6) aK cK) := HE4.out.to hf9 hx9
    clear HE4 hf9 hx9
    clear q0 q1 q2 q3 q4 qs f0 f1 f2 f3 f4 f5 f6 f7 f8 f9 f10 f11 f12 f13 ff fs
    obtain ⟨g0, g1, g2, g3, g4, g5, g6, g7, g8, g9, g10, g11, g12, g13, gf, gs⟩ := framef HE9.out.zb
    go_wp2
    refine bodyPost_ret (v := .agg #[.int .i64 (toF ⟨c, 4, cur, prev, (j : Int), nn, keys, false, ee⟩ 6).c.kind, .int .i64 (toF ⟨c, 4, cur, prev, (j : Int), nn, keys, false, ee⟩ 6).c.a, .int .i64 (toF ⟨c, 4, cur, prev, (j : Int), nn, keys, false, ee⟩ 6).c.b, .int .i64 (toF ⟨c, 4, cur, prev, (j : Int), nn, keys, false, ee⟩ 6).c.time, .int .i64 (toF ⟨c, 4, cur, prev, (j : Int), nn, keys, false, ee⟩ 6).c.bk, .int .i64 (toF ⟨c, 4, cur, prev, (j : Int), nn, keys, false, ee⟩ 6).c.slot, .int .i64 (toF ⟨c, 4, cur, prev, (j : Int), nn, keys, false, ee⟩ 6).pl, .int .i64 (toF ⟨c, 4, cur, prev, (j : Int), nn, keys, false, ee⟩ 6).cur, .int .i64 (toF ⟨c, 4, cur, prev, (j : Int), nn, keys, false, ee⟩ 6).prev, .int .i64 (toF ⟨c, 4, cur, prev, (j : Int), nn, keys, false, ee⟩ 6).slot, .int .i64 (toF ⟨c, 4, cur, prev, (j : Int), nn, keys, false, ee⟩ 6).n, .slice aK (toF ⟨c, 4, cur, prev, (j : Int), nn, keys, false, ee⟩ 6).keys.length cK, .bool (toF ⟨c, 4, cur, prev, (j : Int), nn, keys, false, ee⟩ 6).done, .int .i64 (toF ⟨c, 4, cur, prev, (j : Int), nn, keys, false, ee⟩ 6).e]) (by simp [results, Try.results37, go_sem, toF, g0, g1, g2, g3, g4, g5, g6, g7, g8, g9, g10, g11, g12, g13]) rfl ⟨⟨aK, cK, rfl, HR.out.fine HE9.out.end14.2 HZ.out, (fun ad h => .inl h), fun _ => ⟨rfl, rfl⟩⟩, HE9.out.end14⟩



end Go.Proofs.Ytdbilofhcadmoab.mm
