/- The contract of the document's own LookStep: where it asks again. -/
import Derived.Test.YtaekgadokcmkfabS01
import Derived.BigRegion
import Derived.Test.YtaekgadokcmkfabS02
import Derived.Test.YtaekgadokcmkfabS03
import Derived.Test.YtaekgadokcmkfabC24
import Derived.Test.YtaekgadokcmkfabC03
namespace Go.Proofs.Ytaekgadokcmkfab.mm
open Go.ChangeShapes Go.WideShapes Go.ChangeAt Go.RowKit Go.Joins Go.Deep Go.Sort
set_option maxRecDepth 100000
set_option linter.unusedVariables false

set_option maxHeartbeats 3200000 in
theorem rstep4a (M : Mm) (c : Cl) (cur prev nn ee : Int) (keys : List (Int × Int)) (B lo : Nat) (aS aH aF aL : Option Addr) (cS cH cF cL : Nat) (aK : Option Addr) (cK : Nat) (w : World) (b : Nat)
    (m : Mine w B lo aS aH aF aL cS cH cF cL M) (HR : Hid (KRow w aK cK keys)) (HZ : Hid (∀ ad, aK = some ad → ¬ Foot B aS aH aF aL ad.block)) (j : Nat) (s : Sl) (hns : M.slots.length ≤ 12) (hj : j < M.slots.length) (hs : s = slotAt M j) (hk : lkK s ⟨c, 4, 0, 0, 0, 0, [], false, 0⟩ = false) (hin : s.inn = true)
    (HBk : Hid (∀ W : World, Calls Try.prog 26 #[.agg #[.slice aS M.slots.length cS, .slice aH M.heads.length cH, .slice aF M.free.length cF, .slice aL M.locks.length cL, .int .i64 M.now], .agg #[.int .i64 c.kind, .int .i64 c.a, .int .i64 c.b, .int .i64 c.time, .int .i64 c.bk, .int .i64 c.slot]] W fun e w' => e = .returned (.int .i64 (b : Int)) ∧ Below W.heap.size W w')) :
    Calls Try.prog 31 #[.pointer (some ⟨B, 0, none⟩), .agg #[.int .i64 c.kind, .int .i64 c.a, .int .i64 c.b, .int .i64 c.time, .int .i64 c.bk, .int .i64 c.slot, .int .i64 4, .int .i64 cur, .int .i64 prev, .int .i64 (j : Int), .int .i64 nn, .slice aK keys.length cK, .bool false, .int .i64 ee]] w fun e w' => Ret w w' e (toF ⟨c, 4, cur, prev, (j : Int), nn, keys, false, ee⟩ 5) aK cK ∧ Has w' B lo (Up w (Foot B aS aH aF aL)) (M) ∧ Fine w w' (Foot B aS aH aF aL) := by
  have se : ∀ W : World, (Op.equalIn 10000 37 (.agg #[.int .i64 s.a, .int .i64 s.b]) (.agg #[.int .i64 c.a, .int .i64 c.b])).run Try.prog W = .ok false W := fun W => by rw [kequal]; exact congrArg (fun b => Result.ok b W) hk
  clear hk
  obtain ⟨gS, rfl, oS, lS, kS, -⟩ := row_form m.c.s (by omega)
  have HX : Hid (∀ W, Mine W B lo (some ⟨gS, 0, none⟩) aH aF aL cS cH cF cL M → W.cell? ⟨gS, j * 6, none⟩ = some (.int .i64 s.refs) ∧ W.cell? ⟨gS, j * 6 + 1, none⟩ = some (.int .i64 s.a) ∧ W.cell? ⟨gS, j * 6 + 2, none⟩ = some (.int .i64 s.b) ∧
    W.cell? ⟨gS, j * 6 + 3, none⟩ = some (.int .i64 s.unt) ∧ W.cell? ⟨gS, j * 6 + 4, none⟩ = some (.bool s.inn) ∧ W.cell? ⟨gS, j * 6 + 5, none⟩ = some (.int .i64 s.next) ∧ ∀ q, W.frozen? ⟨gS, q, none⟩ = false) := fun W m' => slotAt_cells m'.c.s hj hs
  clear hs
  rw [hin] at HX
  clear hin
  have hs0 : (0 : Int) ≤ (j : Int) := by omega
  obtain ⟨of, hof⟩ : ∃ o : Obj, o = .cells #[.int .i64 c.kind, .int .i64 c.a, .int .i64 c.b, .int .i64 c.time, .int .i64 c.bk, .int .i64 c.slot, .int .i64 4, .int .i64 cur, .int .i64 prev, .int .i64 (j : Int), .int .i64 nn, .slice aK keys.length cK, .bool false, .int .i64 ee] 51 := ⟨_, rfl⟩
  obtain ⟨oz, hoz⟩ : ∃ o : Obj, o = zeroFr := ⟨_, rfl⟩
  have HE : Hid (Lk w ((w.alloc of).alloc oz) B lo (some ⟨gS, 0, none⟩) aH aF aL cS cH cF cL M ⟨c, 4, cur, prev, (j : Int), nn, keys, false, ee⟩ aK cK) := Lk.first m ⟨c, 4, cur, prev, (j : Int), nn, keys, false, ee⟩ aK cK hof hoz
  obtain ⟨f0, f1, f2, f3, f4, f5, f6, f7, f8, f9, f10, f11, f12, f13, ff, fs⟩ := framef (show ((w.alloc of).alloc oz).heap[w.heap.size]? = some (.cells #[.int .i64 c.kind, .int .i64 c.a, .int .i64 c.b, .int .i64 c.time, .int .i64 c.bk, .int .i64 c.slot, .int .i64 4, .int .i64 cur, .int .i64 prev, .int .i64 (j : Int), .int .i64 nn, .slice aK keys.length cK, .bool false, .int .i64 ee] 51 (0, 0)) from HE.out.fb)
  obtain ⟨q0, q1, q2, q3, q4, -, -, -, -, -, qs⟩ := boxf HE.out.m.box
  unfold zeroFr at hoz
  clear m
  go_enter Try.func31, Try.ntmps31
  go_wp2_with fail
  rw [← hof, ← hoz]
  generalize (w.alloc of).alloc oz = W0 at *
  subst hof hoz
  have cB : ∀ (d : Nat) (os : Array Obj), Calls Try.prog 26 #[.agg #[.slice (some ⟨gS, 0, none⟩) M.slots.length cS, .slice aH M.heads.length cH, .slice aF M.free.length cF, .slice aL M.locks.length cL, .int .i64 M.now], .agg #[.int .i64 c.kind, .int .i64 c.a, .int .i64 c.b, .int .i64 c.time, .int .i64 c.bk, .int .i64 c.slot]] (grow (redrawn W0 d) os) fun e w'' => e = .returned (.int .i64 (b : Int)) ∧ ∃ p : Regrown, w'' = grow (redrawn W0 p.d) p.os := fun d os => Calls.regrown_of (HBk.out _)
  have Q0 := cell_regrown q0; have Q1 := cell_regrown q1; have Q2 := cell_regrown q2; have Q3 := cell_regrown q3; have Q4 := cell_regrown q4
  have F0 := cell_regrown f0; have F1 := cell_regrown f1; have F2 := cell_regrown f2; have F3 := cell_regrown f3; have F4 := cell_regrown f4; have F5 := cell_regrown f5
  clear q0 q1 q2 q3 q4 qs f0 f1 f2 f3 f4 f5 f6 f7 f8 f9 f10 f11 f12 f13 ff fs
  refine wp_region_quiet_below (by kernel_rfl) (by kernel_rfl) ?_
  repeat (quiet_step (first | exact cB _ _))
  refine wpQuiet_nil ?_
  intro _ hw'
  obtain ⟨⟨dq, osq⟩, hw''⟩ := hw'
  subst hw''
  have HE1 : Hid (Lk w (grow (redrawn W0 dq) osq) B lo (some ⟨gS, 0, none⟩) aH aF aL cS cH cF cL M ⟨c, 4, cur, prev, (j : Int), nn, keys, false, ee⟩ aK cK) := HE.out.below (below_regrown W0 dq osq)
  generalize grow (redrawn W0 dq) osq = w1 at *
  clear cB Q0 Q1 Q2 Q3 Q4 F0 F1 F2 F3 F4 F5 HE HBk
  obtain ⟨f0, f1, f2, f3, f4, f5, f6, f7, f8, f9, f10, f11, f12, f13, ff, fs⟩ := framef (show w1.heap[w.heap.size]? = some (.cells #[.int .i64 c.kind, .int .i64 c.a, .int .i64 c.b, .int .i64 c.time, .int .i64 c.bk, .int .i64 c.slot, .int .i64 4, .int .i64 cur, .int .i64 prev, .int .i64 (j : Int), .int .i64 nn, .slice aK keys.length cK, .bool false, .int .i64 ee] 51 (0, 0)) from HE1.out.fb)
  obtain ⟨q0, q1, q2, q3, q4, -, -, -, -, -, qs⟩ := boxf HE1.out.m.box
  obtain ⟨x0, x1, x2, x3, x4, x5, xf⟩ := HX.out w1 HE1.out.m
  have xs : gS < w1.heap.size := cell_lt x0
  go_wp2_with fail
  go_region
  all_goals
    go_wp2_with fail
    have hb3 := one_below w1 (.cells #[.int .i64 s.refs, .int .i64 s.a, .int .i64 s.b, .int .i64 s.unt, .bool true, .int .i64 s.next] 39)
    have HE4 : Hid (Lk2 w ((w1.alloc (.cells #[.int .i64 s.refs, .int .i64 s.a, .int .i64 s.b, .int .i64 s.unt, .bool true, .int .i64 s.next] 39)).drew) (Foot B (some ⟨gS, 0, none⟩) aH aF aL) B lo M ⟨c, 4, cur, prev, (j : Int), nn, keys, false, ee⟩ aK cK) := (HE1.out.below (w2 := (w1.alloc (.cells #[.int .i64 s.refs, .int .i64 s.a, .int .i64 s.b, .int .i64 s.unt, .bool true, .int .i64 s.next] 39)).drew) ⟨hb3.os, hb3.tape, hb3.output, hb3.size, hb3.block⟩).bare
    clear HE1 hb3
    refine (rto_any ⟨c, 4, cur, prev, (j : Int), nn, keys, false, ee⟩ 5 w.heap.size aK cK _ HE4.out.fb).mono ?_
    rintro e w9 ⟨rfl, hf9, hx9⟩
    have HE9 : Hid (Lk2 w w9 (Foot B (some ⟨gS, 0, none⟩) aH aF aL) B lo M (toF ⟨c, 4, cur, prev, (j : Int), nn, keys, false, ee⟩ 5) aK cK) := HE4.out.to hf9 hx9
    clear HE4 hf9 hx9
    clear q0 q1 q2 q3 q4 qs f0 f1 f2 f3 f4 f5 f6 f7 f8 f9 f10 f11 f12 f13 ff fs
    obtain ⟨g0, g1, g2, g3, g4, g5, g6, g7, g8, g9, g10, g11, g12, g13, gf, gs⟩ := framef HE9.out.zb
    go_wp2
    refine bodyPost_ret (v := .agg #[.int .i64 (toF ⟨c, 4, cur, prev, (j : Int), nn, keys, false, ee⟩ 5).c.kind, .int .i64 (toF ⟨c, 4, cur, prev, (j : Int), nn, keys, false, ee⟩ 5).c.a, .int .i64 (toF ⟨c, 4, cur, prev, (j : Int), nn, keys, false, ee⟩ 5).c.b, .int .i64 (toF ⟨c, 4, cur, prev, (j : Int), nn, keys, false, ee⟩ 5).c.time, .int .i64 (toF ⟨c, 4, cur, prev, (j : Int), nn, keys, false, ee⟩ 5).c.bk, .int .i64 (toF ⟨c, 4, cur, prev, (j : Int), nn, keys, false, ee⟩ 5).c.slot, .int .i64 (toF ⟨c, 4, cur, prev, (j : Int), nn, keys, false, ee⟩ 5).pl, .int .i64 (toF ⟨c, 4, cur, prev, (j : Int), nn, keys, false, ee⟩ 5).cur, .int .i64 (toF ⟨c, 4, cur, prev, (j : Int), nn, keys, false, ee⟩ 5).prev, .int .i64 (toF ⟨c, 4, cur, prev, (j : Int), nn, keys, false, ee⟩ 5).slot, .int .i64 (toF ⟨c, 4, cur, prev, (j : Int), nn, keys, false, ee⟩ 5).n, .slice aK (toF ⟨c, 4, cur, prev, (j : Int), nn, keys, false, ee⟩ 5).keys.length cK, .bool (toF ⟨c, 4, cur, prev, (j : Int), nn, keys, false, ee⟩ 5).done, .int .i64 (toF ⟨c, 4, cur, prev, (j : Int), nn, keys, false, ee⟩ 5).e]) (by simp [results, Try.results31, go_sem, toF, g0, g1, g2, g3, g4, g5, g6, g7, g8, g9, g10, g11, g12, g13]) rfl ⟨⟨aK, cK, rfl, HR.out.fine HE9.out.end14.2 HZ.out, (fun ad h => .inl h), fun _ => ⟨rfl, rfl⟩⟩, HE9.out.end14⟩

set_option maxHeartbeats 3200000 in
theorem rstep4b (M : Mm) (c : Cl) (cur prev nn ee : Int) (keys : List (Int × Int)) (B lo : Nat) (aS aH aF aL : Option Addr) (cS cH cF cL : Nat) (aK : Option Addr) (cK : Nat) (w : World) (b : Nat)
    (m : Mine w B lo aS aH aF aL cS cH cF cL M) (HR : Hid (KRow w aK cK keys)) (HZ : Hid (∀ ad, aK = some ad → ¬ Foot B aS aH aF aL ad.block)) (kk : Bool) (j : Nat) (s : Sl) (hns : M.slots.length ≤ 12) (hj : j < M.slots.length) (hs : s = slotAt M j) (hk : lkK s ⟨c, 4, 0, 0, 0, 0, [], false, 0⟩ = kk) (hin : s.inn = false)
    (HBk : Hid (∀ W : World, Calls Try.prog 26 #[.agg #[.slice aS M.slots.length cS, .slice aH M.heads.length cH, .slice aF M.free.length cF, .slice aL M.locks.length cL, .int .i64 M.now], .agg #[.int .i64 c.kind, .int .i64 c.a, .int .i64 c.b, .int .i64 c.time, .int .i64 c.bk, .int .i64 c.slot]] W fun e w' => e = .returned (.int .i64 (b : Int)) ∧ Below W.heap.size W w')) :
    Calls Try.prog 31 #[.pointer (some ⟨B, 0, none⟩), .agg #[.int .i64 c.kind, .int .i64 c.a, .int .i64 c.b, .int .i64 c.time, .int .i64 c.bk, .int .i64 c.slot, .int .i64 4, .int .i64 cur, .int .i64 prev, .int .i64 (j : Int), .int .i64 nn, .slice aK keys.length cK, .bool false, .int .i64 ee]] w fun e w' => Ret w w' e (toF ⟨c, 4, cur, prev, (j : Int), nn, keys, false, ee⟩ 5) aK cK ∧ Has w' B lo (Up w (Foot B aS aH aF aL)) (M) ∧ Fine w w' (Foot B aS aH aF aL) := by
  have se : ∀ W : World, (Op.equalIn 10000 37 (.agg #[.int .i64 s.a, .int .i64 s.b]) (.agg #[.int .i64 c.a, .int .i64 c.b])).run Try.prog W = .ok kk W := fun W => by rw [kequal]; exact congrArg (fun b => Result.ok b W) hk
  clear hk
  obtain ⟨gS, rfl, oS, lS, kS, -⟩ := row_form m.c.s (by omega)
  have HX : Hid (∀ W, Mine W B lo (some ⟨gS, 0, none⟩) aH aF aL cS cH cF cL M → W.cell? ⟨gS, j * 6, none⟩ = some (.int .i64 s.refs) ∧ W.cell? ⟨gS, j * 6 + 1, none⟩ = some (.int .i64 s.a) ∧ W.cell? ⟨gS, j * 6 + 2, none⟩ = some (.int .i64 s.b) ∧
    W.cell? ⟨gS, j * 6 + 3, none⟩ = some (.int .i64 s.unt) ∧ W.cell? ⟨gS, j * 6 + 4, none⟩ = some (.bool s.inn) ∧ W.cell? ⟨gS, j * 6 + 5, none⟩ = some (.int .i64 s.next) ∧ ∀ q, W.frozen? ⟨gS, q, none⟩ = false) := fun W m' => slotAt_cells m'.c.s hj hs
  clear hs
  rw [hin] at HX
  clear hin
  have hs0 : (0 : Int) ≤ (j : Int) := by omega
  obtain ⟨of, hof⟩ : ∃ o : Obj, o = .cells #[.int .i64 c.kind, .int .i64 c.a, .int .i64 c.b, .int .i64 c.time, .int .i64 c.bk, .int .i64 c.slot, .int .i64 4, .int .i64 cur, .int .i64 prev, .int .i64 (j : Int), .int .i64 nn, .slice aK keys.length cK, .bool false, .int .i64 ee] 51 := ⟨_, rfl⟩
  obtain ⟨oz, hoz⟩ : ∃ o : Obj, o = zeroFr := ⟨_, rfl⟩
  have HE : Hid (Lk w ((w.alloc of).alloc oz) B lo (some ⟨gS, 0, none⟩) aH aF aL cS cH cF cL M ⟨c, 4, cur, prev, (j : Int), nn, keys, false, ee⟩ aK cK) := Lk.first m ⟨c, 4, cur, prev, (j : Int), nn, keys, false, ee⟩ aK cK hof hoz
  obtain ⟨f0, f1, f2, f3, f4, f5, f6, f7, f8, f9, f10, f11, f12, f13, ff, fs⟩ := framef (show ((w.alloc of).alloc oz).heap[w.heap.size]? = some (.cells #[.int .i64 c.kind, .int .i64 c.a, .int .i64 c.b, .int .i64 c.time, .int .i64 c.bk, .int .i64 c.slot, .int .i64 4, .int .i64 cur, .int .i64 prev, .int .i64 (j : Int), .int .i64 nn, .slice aK keys.length cK, .bool false, .int .i64 ee] 51 (0, 0)) from HE.out.fb)
  obtain ⟨q0, q1, q2, q3, q4, -, -, -, -, -, qs⟩ := boxf HE.out.m.box
  unfold zeroFr at hoz
  clear m
  go_enter Try.func31, Try.ntmps31
  go_wp2_with fail
  rw [← hof, ← hoz]
  generalize (w.alloc of).alloc oz = W0 at *
  subst hof hoz
  have cB : ∀ (d : Nat) (os : Array Obj), Calls Try.prog 26 #[.agg #[.slice (some ⟨gS, 0, none⟩) M.slots.length cS, .slice aH M.heads.length cH, .slice aF M.free.length cF, .slice aL M.locks.length cL, .int .i64 M.now], .agg #[.int .i64 c.kind, .int .i64 c.a, .int .i64 c.b, .int .i64 c.time, .int .i64 c.bk, .int .i64 c.slot]] (grow (redrawn W0 d) os) fun e w'' => e = .returned (.int .i64 (b : Int)) ∧ ∃ p : Regrown, w'' = grow (redrawn W0 p.d) p.os := fun d os => Calls.regrown_of (HBk.out _)
  have Q0 := cell_regrown q0; have Q1 := cell_regrown q1; have Q2 := cell_regrown q2; have Q3 := cell_regrown q3; have Q4 := cell_regrown q4
  have F0 := cell_regrown f0; have F1 := cell_regrown f1; have F2 := cell_regrown f2; have F3 := cell_regrown f3; have F4 := cell_regrown f4; have F5 := cell_regrown f5
  clear q0 q1 q2 q3 q4 qs f0 f1 f2 f3 f4 f5 f6 f7 f8 f9 f10 f11 f12 f13 ff fs
  refine wp_region_quiet_below (by kernel_rfl) (by kernel_rfl) ?_
  repeat (quiet_step (first | exact cB _ _))
  refine wpQuiet_nil ?_
  intro _ hw'
  obtain ⟨⟨dq, osq⟩, hw''⟩ := hw'
  subst hw''
  have HE1 : Hid (Lk w (grow (redrawn W0 dq) osq) B lo (some ⟨gS, 0, none⟩) aH aF aL cS cH cF cL M ⟨c, 4, cur, prev, (j : Int), nn, keys, false, ee⟩ aK cK) := HE.out.below (below_regrown W0 dq osq)
  generalize grow (redrawn W0 dq) osq = w1 at *
  clear cB Q0 Q1 Q2 Q3 Q4 F0 F1 F2 F3 F4 F5 HE HBk
  obtain ⟨f0, f1, f2, f3, f4, f5, f6, f7, f8, f9, f10, f11, f12, f13, ff, fs⟩ := framef (show w1.heap[w.heap.size]? = some (.cells #[.int .i64 c.kind, .int .i64 c.a, .int .i64 c.b, .int .i64 c.time, .int .i64 c.bk, .int .i64 c.slot, .int .i64 4, .int .i64 cur, .int .i64 prev, .int .i64 (j : Int), .int .i64 nn, .slice aK keys.length cK, .bool false, .int .i64 ee] 51 (0, 0)) from HE1.out.fb)
  obtain ⟨q0, q1, q2, q3, q4, -, -, -, -, -, qs⟩ := boxf HE1.out.m.box
  obtain ⟨x0, x1, x2, x3, x4, x5, xf⟩ := HX.out w1 HE1.out.m
  have xs : gS < w1.heap.size := cell_lt x0
  go_wp2_with fail
  go_region
  all_goals
    go_wp2_with fail
    have hb3 := one_below w1 (.cells #[.int .i64 s.refs, .int .i64 s.a, .int .i64 s.b, .int .i64 s.unt, .bool false, .int .i64 s.next] 39)
    have HE4 : Hid (Lk2 w ((w1.alloc (.cells #[.int .i64 s.refs, .int .i64 s.a, .int .i64 s.b, .int .i64 s.unt, .bool false, .int .i64 s.next] 39)).drew) (Foot B (some ⟨gS, 0, none⟩) aH aF aL) B lo M ⟨c, 4, cur, prev, (j : Int), nn, keys, false, ee⟩ aK cK) := (HE1.out.below (w2 := (w1.alloc (.cells #[.int .i64 s.refs, .int .i64 s.a, .int .i64 s.b, .int .i64 s.unt, .bool false, .int .i64 s.next] 39)).drew) ⟨hb3.os, hb3.tape, hb3.output, hb3.size, hb3.block⟩).bare
    clear HE1 hb3
    refine (rto_any ⟨c, 4, cur, prev, (j : Int), nn, keys, false, ee⟩ 5 w.heap.size aK cK _ HE4.out.fb).mono ?_
    rintro e w9 ⟨rfl, hf9, hx9⟩
    have HE9 : Hid (Lk2 w w9 (Foot B (some ⟨gS, 0, none⟩) aH aF aL) B lo M (toF ⟨c, 4, cur, prev, (j : Int), nn, keys, false, ee⟩ 5) aK cK) := HE4.out.to hf9 hx9
    clear HE4 hf9 hx9
    clear q0 q1 q2 q3 q4 qs f0 f1 f2 f3 f4 f5 f6 f7 f8 f9 f10 f11 f12 f13 ff fs
    obtain ⟨g0, g1, g2, g3, g4, g5, g6, g7, g8, g9, g10, g11, g12, g13, gf, gs⟩ := framef HE9.out.zb
    go_wp2
    refine bodyPost_ret (v := .agg #[.int .i64 (toF ⟨c, 4, cur, prev, (j : Int), nn, keys, false, ee⟩ 5).c.kind, .int .i64 (toF ⟨c, 4, cur, prev, (j : Int), nn, keys, false, ee⟩ 5).c.a, .int .i64 (toF ⟨c, 4, cur, prev, (j : Int), nn, keys, false, ee⟩ 5).c.b, .int .i64 (toF ⟨c, 4, cur, prev, (j : Int), nn, keys, false, ee⟩ 5).c.time, .int .i64 (toF ⟨c, 4, cur, prev, (j : Int), nn, keys, false, ee⟩ 5).c.bk, .int .i64 (toF ⟨c, 4, cur, prev, (j : Int), nn, keys, false, ee⟩ 5).c.slot, .int .i64 (toF ⟨c, 4, cur, prev, (j : Int), nn, keys, false, ee⟩ 5).pl, .int .i64 (toF ⟨c, 4, cur, prev, (j : Int), nn, keys, false, ee⟩ 5).cur, .int .i64 (toF ⟨c, 4, cur, prev, (j : Int), nn, keys, false, ee⟩ 5).prev, .int .i64 (toF ⟨c, 4, cur, prev, (j : Int), nn, keys, false, ee⟩ 5).slot, .int .i64 (toF ⟨c, 4, cur, prev, (j : Int), nn, keys, false, ee⟩ 5).n, .slice aK (toF ⟨c, 4, cur, prev, (j : Int), nn, keys, false, ee⟩ 5).keys.length cK, .bool (toF ⟨c, 4, cur, prev, (j : Int), nn, keys, false, ee⟩ 5).done, .int .i64 (toF ⟨c, 4, cur, prev, (j : Int), nn, keys, false, ee⟩ 5).e]) (by simp [results, Try.results31, go_sem, toF, g0, g1, g2, g3, g4, g5, g6, g7, g8, g9, g10, g11, g12, g13]) rfl ⟨⟨aK, cK, rfl, HR.out.fine HE9.out.end14.2 HZ.out, (fun ad h => .inl h), fun _ => ⟨rfl, rfl⟩⟩, HE9.out.end14⟩

set_option maxHeartbeats 3200000 in
theorem rstep4c (M : Mm) (c : Cl) (cur prev nn ee : Int) (keys : List (Int × Int)) (B lo : Nat) (aS aH aF aL : Option Addr) (cS cH cF cL : Nat) (aK : Option Addr) (cK : Nat) (w : World) (b : Nat)
    (m : Mine w B lo aS aH aF aL cS cH cF cL M) (HR : Hid (KRow w aK cK keys)) (HZ : Hid (∀ ad, aK = some ad → ¬ Foot B aS aH aF aL ad.block)) (j : Nat) (s : Sl) (hns : M.slots.length ≤ 12) (hj : j < M.slots.length) (hs : s = slotAt M j) (hk : lkK s ⟨c, 4, 0, 0, 0, 0, [], false, 0⟩ = true) (hin : s.inn = true) (hu : M.now < s.unt)
    (HBk : Hid (∀ W : World, Calls Try.prog 26 #[.agg #[.slice aS M.slots.length cS, .slice aH M.heads.length cH, .slice aF M.free.length cF, .slice aL M.locks.length cL, .int .i64 M.now], .agg #[.int .i64 c.kind, .int .i64 c.a, .int .i64 c.b, .int .i64 c.time, .int .i64 c.bk, .int .i64 c.slot]] W fun e w' => e = .returned (.int .i64 (b : Int)) ∧ Below W.heap.size W w')) :
    Calls Try.prog 31 #[.pointer (some ⟨B, 0, none⟩), .agg #[.int .i64 c.kind, .int .i64 c.a, .int .i64 c.b, .int .i64 c.time, .int .i64 c.bk, .int .i64 c.slot, .int .i64 4, .int .i64 cur, .int .i64 prev, .int .i64 (j : Int), .int .i64 nn, .slice aK keys.length cK, .bool false, .int .i64 ee]] w fun e w' => Ret w w' e (endF ⟨c, 4, cur, prev, (j : Int), nn, keys, false, ee⟩ 0) aK cK ∧ Has w' B lo (Up w (Foot B aS aH aF aL)) (M) ∧ Fine w w' (Foot B aS aH aF aL) := by
  have se : ∀ W : World, (Op.equalIn 10000 37 (.agg #[.int .i64 s.a, .int .i64 s.b]) (.agg #[.int .i64 c.a, .int .i64 c.b])).run Try.prog W = .ok true W := fun W => by rw [kequal]; exact congrArg (fun b => Result.ok b W) hk
  clear hk
  have hu1 : ¬ s.unt ≤ M.now := by omega
  obtain ⟨gS, rfl, oS, lS, kS, -⟩ := row_form m.c.s (by omega)
  have HX : Hid (∀ W, Mine W B lo (some ⟨gS, 0, none⟩) aH aF aL cS cH cF cL M → W.cell? ⟨gS, j * 6, none⟩ = some (.int .i64 s.refs) ∧ W.cell? ⟨gS, j * 6 + 1, none⟩ = some (.int .i64 s.a) ∧ W.cell? ⟨gS, j * 6 + 2, none⟩ = some (.int .i64 s.b) ∧
    W.cell? ⟨gS, j * 6 + 3, none⟩ = some (.int .i64 s.unt) ∧ W.cell? ⟨gS, j * 6 + 4, none⟩ = some (.bool s.inn) ∧ W.cell? ⟨gS, j * 6 + 5, none⟩ = some (.int .i64 s.next) ∧ ∀ q, W.frozen? ⟨gS, q, none⟩ = false) := fun W m' => slotAt_cells m'.c.s hj hs
  clear hs
  rw [hin] at HX
  clear hin
  have hs0 : (0 : Int) ≤ (j : Int) := by omega
  obtain ⟨of, hof⟩ : ∃ o : Obj, o = .cells #[.int .i64 c.kind, .int .i64 c.a, .int .i64 c.b, .int .i64 c.time, .int .i64 c.bk, .int .i64 c.slot, .int .i64 4, .int .i64 cur, .int .i64 prev, .int .i64 (j : Int), .int .i64 nn, .slice aK keys.length cK, .bool false, .int .i64 ee] 51 := ⟨_, rfl⟩
  obtain ⟨oz, hoz⟩ : ∃ o : Obj, o = zeroFr := ⟨_, rfl⟩
  have HE : Hid (Lk w ((w.alloc of).alloc oz) B lo (some ⟨gS, 0, none⟩) aH aF aL cS cH cF cL M ⟨c, 4, cur, prev, (j : Int), nn, keys, false, ee⟩ aK cK) := Lk.first m ⟨c, 4, cur, prev, (j : Int), nn, keys, false, ee⟩ aK cK hof hoz
  obtain ⟨f0, f1, f2, f3, f4, f5, f6, f7, f8, f9, f10, f11, f12, f13, ff, fs⟩ := framef (show ((w.alloc of).alloc oz).heap[w.heap.size]? = some (.cells #[.int .i64 c.kind, .int .i64 c.a, .int .i64 c.b, .int .i64 c.time, .int .i64 c.bk, .int .i64 c.slot, .int .i64 4, .int .i64 cur, .int .i64 prev, .int .i64 (j : Int), .int .i64 nn, .slice aK keys.length cK, .bool false, .int .i64 ee] 51 (0, 0)) from HE.out.fb)
  obtain ⟨q0, q1, q2, q3, q4, -, -, -, -, -, qs⟩ := boxf HE.out.m.box
  unfold zeroFr at hoz
  clear m
  go_enter Try.func31, Try.ntmps31
  go_wp2_with fail
  rw [← hof, ← hoz]
  generalize (w.alloc of).alloc oz = W0 at *
  subst hof hoz
  have cB : ∀ (d : Nat) (os : Array Obj), Calls Try.prog 26 #[.agg #[.slice (some ⟨gS, 0, none⟩) M.slots.length cS, .slice aH M.heads.length cH, .slice aF M.free.length cF, .slice aL M.locks.length cL, .int .i64 M.now], .agg #[.int .i64 c.kind, .int .i64 c.a, .int .i64 c.b, .int .i64 c.time, .int .i64 c.bk, .int .i64 c.slot]] (grow (redrawn W0 d) os) fun e w'' => e = .returned (.int .i64 (b : Int)) ∧ ∃ p : Regrown, w'' = grow (redrawn W0 p.d) p.os := fun d os => Calls.regrown_of (HBk.out _)
  have Q0 := cell_regrown q0; have Q1 := cell_regrown q1; have Q2 := cell_regrown q2; have Q3 := cell_regrown q3; have Q4 := cell_regrown q4
  have F0 := cell_regrown f0; have F1 := cell_regrown f1; have F2 := cell_regrown f2; have F3 := cell_regrown f3; have F4 := cell_regrown f4; have F5 := cell_regrown f5
  clear q0 q1 q2 q3 q4 qs f0 f1 f2 f3 f4 f5 f6 f7 f8 f9 f10 f11 f12 f13 ff fs
  refine wp_region_quiet_below (by kernel_rfl) (by kernel_rfl) ?_
  repeat (quiet_step (first | exact cB _ _))
  refine wpQuiet_nil ?_
  intro _ hw'
  obtain ⟨⟨dq, osq⟩, hw''⟩ := hw'
  subst hw''
  have HE1 : Hid (Lk w (grow (redrawn W0 dq) osq) B lo (some ⟨gS, 0, none⟩) aH aF aL cS cH cF cL M ⟨c, 4, cur, prev, (j : Int), nn, keys, false, ee⟩ aK cK) := HE.out.below (below_regrown W0 dq osq)
  generalize grow (redrawn W0 dq) osq = w1 at *
  clear cB Q0 Q1 Q2 Q3 Q4 F0 F1 F2 F3 F4 F5 HE HBk
  obtain ⟨f0, f1, f2, f3, f4, f5, f6, f7, f8, f9, f10, f11, f12, f13, ff, fs⟩ := framef (show w1.heap[w.heap.size]? = some (.cells #[.int .i64 c.kind, .int .i64 c.a, .int .i64 c.b, .int .i64 c.time, .int .i64 c.bk, .int .i64 c.slot, .int .i64 4, .int .i64 cur, .int .i64 prev, .int .i64 (j : Int), .int .i64 nn, .slice aK keys.length cK, .bool false, .int .i64 ee] 51 (0, 0)) from HE1.out.fb)
  obtain ⟨q0, q1, q2, q3, q4, -, -, -, -, -, qs⟩ := boxf HE1.out.m.box
  obtain ⟨x0, x1, x2, x3, x4, x5, xf⟩ := HX.out w1 HE1.out.m
  have xs : gS < w1.heap.size := cell_lt x0
  go_wp2_with fail
  go_region
  all_goals
    go_wp2_with fail
    go_quiet (fail)
    go_wp2_with fail
    have hb3 := one_below w1 (.cells #[.int .i64 s.refs, .int .i64 s.a, .int .i64 s.b, .int .i64 s.unt, .bool true, .int .i64 s.next] 39)
    have HE4 : Hid (Lk2 w ((w1.alloc (.cells #[.int .i64 s.refs, .int .i64 s.a, .int .i64 s.b, .int .i64 s.unt, .bool true, .int .i64 s.next] 39)).drewN (1 + nq)) (Foot B (some ⟨gS, 0, none⟩) aH aF aL) B lo M ⟨c, 4, cur, prev, (j : Int), nn, keys, false, ee⟩ aK cK) := (HE1.out.below (w2 := (w1.alloc (.cells #[.int .i64 s.refs, .int .i64 s.a, .int .i64 s.b, .int .i64 s.unt, .bool true, .int .i64 s.next] 39)).drewN (1 + nq)) ⟨hb3.os, hb3.tape, hb3.output, hb3.size, hb3.block⟩).bare
    clear HE1 hb3
    refine (over_any ⟨c, 4, cur, prev, (j : Int), nn, keys, false, ee⟩ 0 aK cK _).mono ?_
    rintro e w9 ⟨rfl, hb9⟩
    have HE9 : Hid (Lk2 w w9 (Foot B (some ⟨gS, 0, none⟩) aH aF aL) B lo M ⟨c, 4, cur, prev, (j : Int), nn, keys, false, ee⟩ aK cK) := HE4.out.below hb9
    clear HE4 hb9
    clear q0 q1 q2 q3 q4 qs f0 f1 f2 f3 f4 f5 f6 f7 f8 f9 f10 f11 f12 f13 ff fs
    obtain ⟨g0, g1, g2, g3, g4, g5, g6, g7, g8, g9, g10, g11, g12, g13, gf, gs⟩ := framef HE9.out.zb
    go_wp2
    refine bodyPost_ret (v := .agg #[.int .i64 (endF ⟨c, 4, cur, prev, (j : Int), nn, keys, false, ee⟩ 0).c.kind, .int .i64 (endF ⟨c, 4, cur, prev, (j : Int), nn, keys, false, ee⟩ 0).c.a, .int .i64 (endF ⟨c, 4, cur, prev, (j : Int), nn, keys, false, ee⟩ 0).c.b, .int .i64 (endF ⟨c, 4, cur, prev, (j : Int), nn, keys, false, ee⟩ 0).c.time, .int .i64 (endF ⟨c, 4, cur, prev, (j : Int), nn, keys, false, ee⟩ 0).c.bk, .int .i64 (endF ⟨c, 4, cur, prev, (j : Int), nn, keys, false, ee⟩ 0).c.slot, .int .i64 (endF ⟨c, 4, cur, prev, (j : Int), nn, keys, false, ee⟩ 0).pl, .int .i64 (endF ⟨c, 4, cur, prev, (j : Int), nn, keys, false, ee⟩ 0).cur, .int .i64 (endF ⟨c, 4, cur, prev, (j : Int), nn, keys, false, ee⟩ 0).prev, .int .i64 (endF ⟨c, 4, cur, prev, (j : Int), nn, keys, false, ee⟩ 0).slot, .int .i64 (endF ⟨c, 4, cur, prev, (j : Int), nn, keys, false, ee⟩ 0).n, .slice aK (endF ⟨c, 4, cur, prev, (j : Int), nn, keys, false, ee⟩ 0).keys.length cK, .bool (endF ⟨c, 4, cur, prev, (j : Int), nn, keys, false, ee⟩ 0).done, .int .i64 (endF ⟨c, 4, cur, prev, (j : Int), nn, keys, false, ee⟩ 0).e]) (by simp [results, Try.results31, go_sem, endF, g0, g1, g2, g3, g4, g5, g6, g7, g8, g9, g10, g11, g12, g13]) rfl ⟨⟨aK, cK, rfl, HR.out.fine HE9.out.end14.2 HZ.out, (fun ad h => .inl h), fun _ => ⟨rfl, rfl⟩⟩, HE9.out.end14⟩

set_option maxHeartbeats 3200000 in
theorem rstep4d (M : Mm) (c : Cl) (cur prev nn ee : Int) (keys : List (Int × Int)) (B lo : Nat) (aS aH aF aL : Option Addr) (cS cH cF cL : Nat) (aK : Option Addr) (cK : Nat) (w : World) (b : Nat)
    (m : Mine w B lo aS aH aF aL cS cH cF cL M) (HR : Hid (KRow w aK cK keys)) (HZ : Hid (∀ ad, aK = some ad → ¬ Foot B aS aH aF aL ad.block)) (j : Nat) (s : Sl) (hns : M.slots.length ≤ 12) (hj : j < M.slots.length) (hs : s = slotAt M j) (hk : lkK s ⟨c, 4, 0, 0, 0, 0, [], false, 0⟩ = true) (hin : s.inn = true) (hu : s.unt ≤ M.now)
    (HBk : Hid (∀ W : World, Calls Try.prog 26 #[.agg #[.slice aS M.slots.length cS, .slice aH M.heads.length cH, .slice aF M.free.length cF, .slice aL M.locks.length cL, .int .i64 M.now], .agg #[.int .i64 c.kind, .int .i64 c.a, .int .i64 c.b, .int .i64 c.time, .int .i64 c.bk, .int .i64 c.slot]] W fun e w' => e = .returned (.int .i64 (b : Int)) ∧ Below W.heap.size W w')) :
    Calls Try.prog 31 #[.pointer (some ⟨B, 0, none⟩), .agg #[.int .i64 c.kind, .int .i64 c.a, .int .i64 c.b, .int .i64 c.time, .int .i64 c.bk, .int .i64 c.slot, .int .i64 4, .int .i64 cur, .int .i64 prev, .int .i64 (j : Int), .int .i64 nn, .slice aK keys.length cK, .bool false, .int .i64 ee]] w fun e w' => Ret w w' e (toF ⟨c, 4, cur, prev, (j : Int), nn, keys, false, ee⟩ 6) aK cK ∧ Has w' B lo (Up w (Foot B aS aH aF aL)) (M) ∧ Fine w w' (Foot B aS aH aF aL) := by
  have se : ∀ W : World, (Op.equalIn 10000 37 (.agg #[.int .i64 s.a, .int .i64 s.b]) (.agg #[.int .i64 c.a, .int .i64 c.b])).run Try.prog W = .ok true W := fun W => by rw [kequal]; exact congrArg (fun b => Result.ok b W) hk
  clear hk
  have hu1 : ¬ M.now < s.unt := by omega
  obtain ⟨gS, rfl, oS, lS, kS, -⟩ := row_form m.c.s (by omega)
  have HX : Hid (∀ W, Mine W B lo (some ⟨gS, 0, none⟩) aH aF aL cS cH cF cL M → W.cell? ⟨gS, j * 6, none⟩ = some (.int .i64 s.refs) ∧ W.cell? ⟨gS, j * 6 + 1, none⟩ = some (.int .i64 s.a) ∧ W.cell? ⟨gS, j * 6 + 2, none⟩ = some (.int .i64 s.b) ∧
    W.cell? ⟨gS, j * 6 + 3, none⟩ = some (.int .i64 s.unt) ∧ W.cell? ⟨gS, j * 6 + 4, none⟩ = some (.bool s.inn) ∧ W.cell? ⟨gS, j * 6 + 5, none⟩ = some (.int .i64 s.next) ∧ ∀ q, W.frozen? ⟨gS, q, none⟩ = false) := fun W m' => slotAt_cells m'.c.s hj hs
  clear hs
  rw [hin] at HX
  clear hin
  have hs0 : (0 : Int) ≤ (j : Int) := by omega
  obtain ⟨of, hof⟩ : ∃ o : Obj, o = .cells #[.int .i64 c.kind, .int .i64 c.a, .int .i64 c.b, .int .i64 c.time, .int .i64 c.bk, .int .i64 c.slot, .int .i64 4, .int .i64 cur, .int .i64 prev, .int .i64 (j : Int), .int .i64 nn, .slice aK keys.length cK, .bool false, .int .i64 ee] 51 := ⟨_, rfl⟩
  obtain ⟨oz, hoz⟩ : ∃ o : Obj, o = zeroFr := ⟨_, rfl⟩
  have HE : Hid (Lk w ((w.alloc of).alloc oz) B lo (some ⟨gS, 0, none⟩) aH aF aL cS cH cF cL M ⟨c, 4, cur, prev, (j : Int), nn, keys, false, ee⟩ aK cK) := Lk.first m ⟨c, 4, cur, prev, (j : Int), nn, keys, false, ee⟩ aK cK hof hoz
  obtain ⟨f0, f1, f2, f3, f4, f5, f6, f7, f8, f9, f10, f11, f12, f13, ff, fs⟩ := framef (show ((w.alloc of).alloc oz).heap[w.heap.size]? = some (.cells #[.int .i64 c.kind, .int .i64 c.a, .int .i64 c.b, .int .i64 c.time, .int .i64 c.bk, .int .i64 c.slot, .int .i64 4, .int .i64 cur, .int .i64 prev, .int .i64 (j : Int), .int .i64 nn, .slice aK keys.length cK, .bool false, .int .i64 ee] 51 (0, 0)) from HE.out.fb)
  obtain ⟨q0, q1, q2, q3, q4, -, -, -, -, -, qs⟩ := boxf HE.out.m.box
  unfold zeroFr at hoz
  clear m
  go_enter Try.func31, Try.ntmps31
  go_wp2_with fail
  rw [← hof, ← hoz]
  generalize (w.alloc of).alloc oz = W0 at *
  subst hof hoz
  have cB : ∀ (d : Nat) (os : Array Obj), Calls Try.prog 26 #[.agg #[.slice (some ⟨gS, 0, none⟩) M.slots.length cS, .slice aH M.heads.length cH, .slice aF M.free.length cF, .slice aL M.locks.length cL, .int .i64 M.now], .agg #[.int .i64 c.kind, .int .i64 c.a, .int .i64 c.b, .int .i64 c.time, .int .i64 c.bk, .int .i64 c.slot]] (grow (redrawn W0 d) os) fun e w'' => e = .returned (.int .i64 (b : Int)) ∧ ∃ p : Regrown, w'' = grow (redrawn W0 p.d) p.os := fun d os => Calls.regrown_of (HBk.out _)
  have Q0 := cell_regrown q0; have Q1 := cell_regrown q1; have Q2 := cell_regrown q2; have Q3 := cell_regrown q3; have Q4 := cell_regrown q4
  have F0 := cell_regrown f0; have F1 := cell_regrown f1; have F2 := cell_regrown f2; have F3 := cell_regrown f3; have F4 := cell_regrown f4; have F5 := cell_regrown f5
  clear q0 q1 q2 q3 q4 qs f0 f1 f2 f3 f4 f5 f6 f7 f8 f9 f10 f11 f12 f13 ff fs
  refine wp_region_quiet_below (by kernel_rfl) (by kernel_rfl) ?_
  repeat (quiet_step (first | exact cB _ _))
  refine wpQuiet_nil ?_
  intro _ hw'
  obtain ⟨⟨dq, osq⟩, hw''⟩ := hw'
  subst hw''
  have HE1 : Hid (Lk w (grow (redrawn W0 dq) osq) B lo (some ⟨gS, 0, none⟩) aH aF aL cS cH cF cL M ⟨c, 4, cur, prev, (j : Int), nn, keys, false, ee⟩ aK cK) := HE.out.below (below_regrown W0 dq osq)
  generalize grow (redrawn W0 dq) osq = w1 at *
  clear cB Q0 Q1 Q2 Q3 Q4 F0 F1 F2 F3 F4 F5 HE HBk
  obtain ⟨f0, f1, f2, f3, f4, f5, f6, f7, f8, f9, f10, f11, f12, f13, ff, fs⟩ := framef (show w1.heap[w.heap.size]? = some (.cells #[.int .i64 c.kind, .int .i64 c.a, .int .i64 c.b, .int .i64 c.time, .int .i64 c.bk, .int .i64 c.slot, .int .i64 4, .int .i64 cur, .int .i64 prev, .int .i64 (j : Int), .int .i64 nn, .slice aK keys.length cK, .bool false, .int .i64 ee] 51 (0, 0)) from HE1.out.fb)
  obtain ⟨q0, q1, q2, q3, q4, -, -, -, -, -, qs⟩ := boxf HE1.out.m.box
  obtain ⟨x0, x1, x2, x3, x4, x5, xf⟩ := HX.out w1 HE1.out.m
  have xs : gS < w1.heap.size := cell_lt x0
  go_wp2_with fail
  go_region
  all_goals
    go_wp2_with fail
    go_quiet (fail)
    go_wp2_with fail
    have hb3 := one_below w1 (.cells #[.int .i64 s.refs, .int .i64 s.a, .int .i64 s.b, .int .i64 s.unt, .bool true, .int .i64 s.next] 39)
    have HE4 : Hid (Lk2 w ((w1.alloc (.cells #[.int .i64 s.refs, .int .i64 s.a, .int .i64 s.b, .int .i64 s.unt, .bool true, .int .i64 s.next] 39)).drewN (1 + nq)) (Foot B (some ⟨gS, 0, none⟩) aH aF aL) B lo M ⟨c, 4, cur, prev, (j : Int), nn, keys, false, ee⟩ aK cK) := (HE1.out.below (w2 := (w1.alloc (.cells #[.int .i64 s.refs, .int .i64 s.a, .int .i64 s.b, .int .i64 s.unt, .bool true, .int .i64 s.next] 39)).drewN (1 + nq)) ⟨hb3.os, hb3.tape, hb3.output, hb3.size, hb3.block⟩).bare
    clear HE1 hb3
    refine (rto_any ⟨c, 4, cur, prev, (j : Int), nn, keys, false, ee⟩ 6 w.heap.size aK cK _ HE4.out.fb).mono ?_
    rintro e w9 ⟨rfl, hf9, hx9⟩
    have HE9 : Hid (Lk2 w w9 (Foot B (some ⟨gS, 0, none⟩) aH aF aL) B lo M (toF ⟨c, 4, cur, prev, (j : Int), nn, keys, false, ee⟩ 6) aK cK) := HE4.out.to hf9 hx9
    clear HE4 hf9 hx9
    clear q0 q1 q2 q3 q4 qs f0 f1 f2 f3 f4 f5 f6 f7 f8 f9 f10 f11 f12 f13 ff fs
    obtain ⟨g0, g1, g2, g3, g4, g5, g6, g7, g8, g9, g10, g11, g12, g13, gf, gs⟩ := framef HE9.out.zb
    go_wp2
    refine bodyPost_ret (v := .agg #[.int .i64 (toF ⟨c, 4, cur, prev, (j : Int), nn, keys, false, ee⟩ 6).c.kind, .int .i64 (toF ⟨c, 4, cur, prev, (j : Int), nn, keys, false, ee⟩ 6).c.a, .int .i64 (toF ⟨c, 4, cur, prev, (j : Int), nn, keys, false, ee⟩ 6).c.b, .int .i64 (toF ⟨c, 4, cur, prev, (j : Int), nn, keys, false, ee⟩ 6).c.time, .int .i64 (toF ⟨c, 4, cur, prev, (j : Int), nn, keys, false, ee⟩ 6).c.bk, .int .i64 (toF ⟨c, 4, cur, prev, (j : Int), nn, keys, false, ee⟩ 6).c.slot, .int .i64 (toF ⟨c, 4, cur, prev, (j : Int), nn, keys, false, ee⟩ 6).pl, .int .i64 (toF ⟨c, 4, cur, prev, (j : Int), nn, keys, false, ee⟩ 6).cur, .int .i64 (toF ⟨c, 4, cur, prev, (j : Int), nn, keys, false, ee⟩ 6).prev, .int .i64 (toF ⟨c, 4, cur, prev, (j : Int), nn, keys, false, ee⟩ 6).slot, .int .i64 (toF ⟨c, 4, cur, prev, (j : Int), nn, keys, false, ee⟩ 6).n, .slice aK (toF ⟨c, 4, cur, prev, (j : Int), nn, keys, false, ee⟩ 6).keys.length cK, .bool (toF ⟨c, 4, cur, prev, (j : Int), nn, keys, false, ee⟩ 6).done, .int .i64 (toF ⟨c, 4, cur, prev, (j : Int), nn, keys, false, ee⟩ 6).e]) (by simp [results, Try.results31, go_sem, toF, g0, g1, g2, g3, g4, g5, g6, g7, g8, g9, g10, g11, g12, g13]) rfl ⟨⟨aK, cK, rfl, HR.out.fine HE9.out.end14.2 HZ.out, (fun ad h => .inl h), fun _ => ⟨rfl, rfl⟩⟩, HE9.out.end14⟩

end Go.Proofs.Ytaekgadokcmkfab.mm

/- The contract of the document's own LookStep: it does what look's Step does. -/
namespace Go.Proofs.Ytaekgadokcmkfab.mm
open Go.ChangeShapes Go.WideShapes Go.ChangeAt Go.RowKit Go.Joins
set_option maxRecDepth 100000
set_option linter.unusedVariables false

theorem rstep_mine (M : Mm) (f : Fr) (B lo : Nat) (aS aH aF aL : Option Addr) (cS cH cF cL : Nat) (aK : Option Addr) (cK : Nat) (w : World)
    (m : Mine w B lo aS aH aF aL cS cH cF cL M) (hM : Ok M) (hf : Fit M f) (r : KRow w aK cK f.keys) (hz : ∀ ad, aK = some ad → ¬ Foot B aS aH aF aL ad.block) :
    Calls Try.prog 31 #[.pointer (some ⟨B, 0, none⟩), .agg #[.int .i64 f.c.kind, .int .i64 f.c.a, .int .i64 f.c.b, .int .i64 f.c.time, .int .i64 f.c.bk, .int .i64 f.c.slot, .int .i64 f.pl, .int .i64 f.cur, .int .i64 f.prev, .int .i64 f.slot, .int .i64 f.n, .slice aK f.keys.length cK, .bool f.done, .int .i64 f.e]] w fun e w' => Ret w w' e (lkF M f) aK cK ∧ Has w' B lo (Up w (Foot B aS aH aF aL)) (lkM M f) ∧ Fine w w' (Foot B aS aH aF aL) := by
  obtain ⟨c, pl, cur, prev, slot, nn, keys, done, ee⟩ := f
  have hd : done = false := hf.done
  subst hd
  have hpl : 0 ≤ pl ∧ pl ≤ 9 := hf.pl
  have hns := hM.ns
  have hnh := hM.nh
  have hcu : cur ≤ M.slots.length := hf.cur.2
  have hsl : slot < M.slots.length := hf.slot.2
  obtain ⟨b0, b1⟩ : 0 ≤ bkOf M.heads.length c ∧ bkOf M.heads.length c < M.heads.length := bkOf_in hM hf.call
  obtain ⟨b, hb⟩ : ∃ b : Nat, bkOf M.heads.length c = b := ⟨_, (Int.toNat_of_nonneg b0).symm⟩
  have hbl : b < M.heads.length := by omega
  have HBk : Hid (∀ W : World, Calls Try.prog 26 #[.agg #[.slice aS M.slots.length cS, .slice aH M.heads.length cH, .slice aF M.free.length cF, .slice aL M.locks.length cL, .int .i64 M.now], .agg #[.int .i64 c.kind, .int .i64 c.a, .int .i64 c.b, .int .i64 c.time, .int .i64 c.bk, .int .i64 c.slot]] W fun e w' => e = .returned (.int .i64 (b : Int)) ∧ Below W.heap.size W w') := fun W => hb ▸ chainFor_any aS aH aF aL _ _ _ _ cS cH cF cL M.now c W (by omega)
  by_cases h7 : 7 ≤ pl
  · rw [lkF7 (f := ⟨c, pl, cur, prev, slot, nn, keys, false, ee⟩) h7, lkM_same (f := ⟨c, pl, cur, prev, slot, nn, keys, false, ee⟩) (by show pl ≠ 3 ∧ pl ≠ 5 ∧ pl ≠ 6; omega)]
    exact rstep7 M c cur prev slot nn ee keys B lo aS aH aF aL cS cH cF cL aK cK w b m r hz pl h7 HBk
  · obtain rfl | rfl | rfl | rfl | rfl | rfl | rfl : pl = 0 ∨ pl = 1 ∨ pl = 2 ∨ pl = 3 ∨ pl = 4 ∨ pl = 5 ∨ pl = 6 := by omega
    · have e1 : lkF M ⟨c, 0, cur, prev, slot, nn, keys, false, ee⟩ = curF ⟨c, 0, cur, prev, slot, nn, keys, false, ee⟩ M.heads[b] 1 := by
        rw [lkF0 rfl]
        unfold lkBegin
        show curF _ (headM M (bkOf M.heads.length c).toNat) 1 = _
        rw [hb]
        simp [headM, List.getD_eq_getElem?_getD, hbl]
      rw [e1, lkM_same (f := ⟨c, 0, cur, prev, slot, nn, keys, false, ee⟩) (by show (0 : Int) ≠ 3 ∧ (0 : Int) ≠ 5 ∧ (0 : Int) ≠ 6; omega)]
      exact rstep0 M c cur prev slot nn ee keys B lo aS aH aF aL cS cH cF cL aK cK w b m r hz _ hbl hnh.2 rfl HBk
    · rw [lkM_same (f := ⟨c, 1, cur, prev, slot, nn, keys, false, ee⟩) (by show (1 : Int) ≠ 3 ∧ (1 : Int) ≠ 5 ∧ (1 : Int) ≠ 6; omega), lkF1 rfl]
      by_cases hc : cur ≤ 0
      · have hat : isAt M ⟨c, 1, cur, prev, slot, nn, keys, false, ee⟩ = false := by
          cases hx : isAt M ⟨c, 1, cur, prev, slot, nn, keys, false, ee⟩
          · rfl
          · have : 1 ≤ cur ∧ _ := isAt_iff.1 hx
            omega
        by_cases hq : cur = -1 - (b : Int)
        · have e1 : lkSee M ⟨c, 1, cur, prev, slot, nn, keys, false, ee⟩ = endF ⟨c, 1, cur, prev, slot, nn, keys, false, ee⟩ 5 := by
            unfold lkSee
            rw [if_pos (by show cur = -1 - bkOf M.heads.length c; rw [hb]; exact hq)]
          rw [e1]
          exact rstep1endtrue M c cur prev slot nn ee keys B lo aS aH aF aL cS cH cF cL aK cK w b m r hz hc (by omega) (by simp [hq]) HBk
        · have e1 : lkSee M ⟨c, 1, cur, prev, slot, nn, keys, false, ee⟩ = toF ⟨c, 1, cur, prev, slot, nn, keys, false, ee⟩ 0 := by
            unfold lkSee
            rw [if_neg (by show ¬ cur = -1 - bkOf M.heads.length c; rw [hb]; exact hq), hat]
            rfl
          rw [e1]
          exact rstep1endfalse M c cur prev slot nn ee keys B lo aS aH aF aL cS cH cF cL aK cK w b m r hz hc (by omega) (by simpa using hq) HBk
      · obtain ⟨j, rfl⟩ : ∃ j : Nat, cur = (j : Int) + 1 := ⟨(cur - 1).toNat, by omega⟩
        have hj : j < M.slots.length := by omega
        have hat : isAt M ⟨c, 1, (j : Int) + 1, prev, slot, nn, keys, false, ee⟩ = true := isAt_iff.2 (by show 1 ≤ (j : Int) + 1 ∧ (j : Int) + 1 ≤ M.slots.length; omega)
        have e0 : lkSee M ⟨c, 1, (j : Int) + 1, prev, slot, nn, keys, false, ee⟩ = toF ⟨c, 1, (j : Int) + 1, prev, slot, nn, keys, false, ee⟩ (if lkK (slotAt M j) ⟨c, 1, 0, 0, 0, 0, [], false, 0⟩ then 3 else 2) := by
          unfold lkSee
          rw [if_neg (by show ¬ (j : Int) + 1 = -1 - bkOf M.heads.length c; rw [hb]; omega), if_pos hat]
          show toF _ (if lkK (slotAt M ((j : Int) + 1 - 1)) _ then 3 else 2) = _
          rw [show (j : Int) + 1 - 1 = j by omega]
          rfl
        rw [e0]
        cases hk : lkK (slotAt M j) ⟨c, 1, 0, 0, 0, 0, [], false, 0⟩
        · exact rstep1false M c prev slot nn ee keys B lo aS aH aF aL cS cH cF cL aK cK w b m r hz j _ hns hj rfl hk HBk
        · exact rstep1true M c prev slot nn ee keys B lo aS aH aF aL cS cH cF cL aK cK w b m r hz j _ hns hj rfl hk HBk
    · rw [lkM_same (f := ⟨c, 2, cur, prev, slot, nn, keys, false, ee⟩) (by show (2 : Int) ≠ 3 ∧ (2 : Int) ≠ 5 ∧ (2 : Int) ≠ 6; omega), lkF2 rfl]
      by_cases hc : cur ≤ 0
      · have e1 : lkPass M ⟨c, 2, cur, prev, slot, nn, keys, false, ee⟩ = toF ⟨c, 2, cur, prev, slot, nn, keys, false, ee⟩ 0 := by
          unfold lkPass
          rw [if_neg (fun hx => by have : 1 ≤ cur ∧ _ := isAt_iff.1 hx; omega)]
        rw [e1]
        exact rstep2no M c cur prev slot nn ee keys B lo aS aH aF aL cS cH cF cL aK cK w b m r hz hc HBk
      · obtain ⟨j, rfl⟩ : ∃ j : Nat, cur = (j : Int) + 1 := ⟨(cur - 1).toNat, by omega⟩
        have hj : j < M.slots.length := by omega
        have hat : isAt M ⟨c, 2, (j : Int) + 1, prev, slot, nn, keys, false, ee⟩ = true := isAt_iff.2 (by show 1 ≤ (j : Int) + 1 ∧ (j : Int) + 1 ≤ M.slots.length; omega)
        have e0 : lkPass M ⟨c, 2, (j : Int) + 1, prev, slot, nn, keys, false, ee⟩ = curF ⟨c, 2, (j : Int) + 1, prev, slot, nn, keys, false, ee⟩ (slotAt M j).next 1 := by
          unfold lkPass
          rw [if_pos hat]
          show curF _ (slotAt M ((j : Int) + 1 - 1)).next 1 = _
          rw [show (j : Int) + 1 - 1 = j by omega]
        rw [e0]
        exact rstep2 M c prev slot nn ee keys B lo aS aH aF aL cS cH cF cL aK cK w b m r hz j _ hns hj rfl HBk
    · rw [lkM3 rfl, lkF3 rfl]
      by_cases hc : cur ≤ 0
      · have hat : isAt M ⟨c, 3, cur, prev, slot, nn, keys, false, ee⟩ = false := by
          cases hx : isAt M ⟨c, 3, cur, prev, slot, nn, keys, false, ee⟩
          · rfl
          · have : 1 ≤ cur ∧ _ := isAt_iff.1 hx
            omega
        have e1 : lkHold M ⟨c, 3, cur, prev, slot, nn, keys, false, ee⟩ = toF ⟨c, 3, cur, prev, slot, nn, keys, false, ee⟩ 0 := by unfold lkHold; rw [hat]; rfl
        have e2 : lkHoldM M ⟨c, 3, cur, prev, slot, nn, keys, false, ee⟩ = M := by unfold lkHoldM; rw [hat]; rfl
        rw [e1, e2]
        exact rstep3no M c cur prev slot nn ee keys B lo aS aH aF aL cS cH cF cL aK cK w b m r hz hc HBk
      · obtain ⟨j, rfl⟩ : ∃ j : Nat, cur = (j : Int) + 1 := ⟨(cur - 1).toNat, by omega⟩
        have hj : j < M.slots.length := by omega
        have hat : isAt M ⟨c, 3, (j : Int) + 1, prev, slot, nn, keys, false, ee⟩ = true := isAt_iff.2 (by show 1 ≤ (j : Int) + 1 ∧ (j : Int) + 1 ≤ M.slots.length; omega)
        have hS : isSl M (j : Int) = true := isSl_in.2 (by omega)
        have e2 : lkHoldM M ⟨c, 3, (j : Int) + 1, prev, slot, nn, keys, false, ee⟩ = holdN M j := by
          unfold lkHoldM
          rw [if_pos hat]
          show holdN M ((j : Int) + 1 - 1) = _
          rw [show (j : Int) + 1 - 1 = j by omega]
        have e1 : lkHold M ⟨c, 3, (j : Int) + 1, prev, slot, nn, keys, false, ee⟩ = if canH M j then handF ⟨c, 3, (j : Int) + 1, prev, slot, nn, keys, false, ee⟩ j 4 else toF ⟨c, 3, (j : Int) + 1, prev, slot, nn, keys, false, ee⟩ 0 := by
          unfold lkHold
          rw [hat]
          show (if (true && canH M ((j : Int) + 1 - 1)) = true then handF _ ((j : Int) + 1 - 1) 4 else _) = _
          rw [show (j : Int) + 1 - 1 = j by omega, Bool.true_and]
        rw [e1, e2]
        cases hcan : canH M j
        · exact rstep3false M c prev slot nn ee keys B lo aS aH aF aL cS cH cF cL aK cK w b m r hz j _ hns hj (fun W Z h => by have := rhold_fine h hM hS; rwa [hcan] at this) HBk
        · exact rstep3true M c prev slot nn ee keys B lo aS aH aF aL cS cH cF cL aK cK w b m r hz j _ hns hj (fun W Z h => by have := rhold_fine h hM hS; rwa [hcan] at this) HBk
    · rw [lkM_same (f := ⟨c, 4, cur, prev, slot, nn, keys, false, ee⟩) (by show (4 : Int) ≠ 3 ∧ (4 : Int) ≠ 5 ∧ (4 : Int) ≠ 6; omega), lkF4 rfl]
      by_cases hs : slot < 0
      · have e1 : lkProve M ⟨c, 4, cur, prev, slot, nn, keys, false, ee⟩ = toF ⟨c, 4, cur, prev, slot, nn, keys, false, ee⟩ 0 := by
          unfold lkProve
          rw [if_neg (fun hx => by have : 0 ≤ slot ∧ _ := isSl_in.1 hx; omega)]
        rw [e1]
        exact rstep4no M c cur prev slot nn ee keys B lo aS aH aF aL cS cH cF cL aK cK w b m r hz hs HBk
      · obtain ⟨j, rfl⟩ : ∃ j : Nat, slot = (j : Int) := ⟨slot.toNat, by omega⟩
        have hj : j < M.slots.length := by omega
        have hS : isSl M (j : Int) = true := isSl_in.2 (by omega)
        have e0 : lkProve M ⟨c, 4, cur, prev, (j : Int), nn, keys, false, ee⟩ = if lkK (slotAt M j) ⟨c, 4, 0, 0, 0, 0, [], false, 0⟩ && (slotAt M j).inn then (if M.now < (slotAt M j).unt then endF ⟨c, 4, cur, prev, (j : Int), nn, keys, false, ee⟩ 0 else toF ⟨c, 4, cur, prev, (j : Int), nn, keys, false, ee⟩ 6) else toF ⟨c, 4, cur, prev, (j : Int), nn, keys, false, ee⟩ 5 := by
          unfold lkProve
          rw [if_pos hS]
          rfl
        rw [e0]
        cases hin : (slotAt M j).inn
        · rw [Bool.and_false]
          exact rstep4b M c cur prev nn ee keys B lo aS aH aF aL cS cH cF cL aK cK w b m r hz _ j _ hns hj rfl rfl hin HBk
        · rw [Bool.and_true]
          cases hk : lkK (slotAt M j) ⟨c, 4, 0, 0, 0, 0, [], false, 0⟩
          · exact rstep4a M c cur prev nn ee keys B lo aS aH aF aL cS cH cF cL aK cK w b m r hz j _ hns hj rfl hk hin HBk
          · by_cases hu : M.now < (slotAt M j).unt
            · rw [if_pos hu]
              exact rstep4c M c cur prev nn ee keys B lo aS aH aF aL cS cH cF cL aK cK w b m r hz j _ hns hj rfl hk hin hu HBk
            · rw [if_neg hu]
              exact rstep4d M c cur prev nn ee keys B lo aS aH aF aL cS cH cF cL aK cK w b m r hz j _ hns hj rfl hk hin (by omega) HBk
    · rw [lkM5 rfl, lkF5 rfl]
      by_cases hs : slot < 0
      · have hS : isSl M slot = false := by
          cases hx : isSl M slot
          · rfl
          · have := isSl_in.1 hx; omega
        have e1 : lkStray M ⟨c, 5, cur, prev, slot, nn, keys, false, ee⟩ = toF ⟨c, 5, cur, prev, slot, nn, keys, false, ee⟩ 0 := by unfold lkStray; rw [hS]; rfl
        have e2 : lkLetM M ⟨c, 5, cur, prev, slot, nn, keys, false, ee⟩ = M := by unfold lkLetM; rw [hS]; rfl
        rw [e1, e2]
        exact rstep5no M c cur prev slot nn ee keys B lo aS aH aF aL cS cH cF cL aK cK w b m r hz hs HBk
      · have hS : isSl M slot = true := isSl_in.2 (by omega)
        have e1 : lkStray M ⟨c, 5, cur, prev, slot, nn, keys, false, ee⟩ = handF ⟨c, 5, cur, prev, slot, nn, keys, false, ee⟩ (-1) 0 := by unfold lkStray; rw [hS]; rfl
        have e2 : lkLetM M ⟨c, 5, cur, prev, slot, nn, keys, false, ee⟩ = putN M slot := by unfold lkLetM; rw [hS]; rfl
        rw [e1, e2]
        exact rstep5 M c cur prev slot nn ee keys B lo aS aH aF aL cS cH cF cL aK cK w b m r hz _ (by omega) (fun W Z h => rput_fine h hM hS) HBk
    · rw [lkM6 rfl, lkF6 rfl]
      by_cases hs : slot < 0
      · have hS : isSl M slot = false := by
          cases hx : isSl M slot
          · rfl
          · have := isSl_in.1 hx; omega
        have e1 : lkOver M ⟨c, 6, cur, prev, slot, nn, keys, false, ee⟩ = toF ⟨c, 6, cur, prev, slot, nn, keys, false, ee⟩ 0 := by unfold lkOver; rw [hS]; rfl
        have e2 : lkLetM M ⟨c, 6, cur, prev, slot, nn, keys, false, ee⟩ = M := by unfold lkLetM; rw [hS]; rfl
        rw [e1, e2]
        exact rstep6no M c cur prev slot nn ee keys B lo aS aH aF aL cS cH cF cL aK cK w b m r hz hs HBk
      · have hS : isSl M slot = true := isSl_in.2 (by omega)
        have e1 : lkOver M ⟨c, 6, cur, prev, slot, nn, keys, false, ee⟩ = endF ⟨c, 6, cur, prev, -1, nn, keys, false, ee⟩ 5 := by unfold lkOver; rw [hS]; rfl
        have e2 : lkLetM M ⟨c, 6, cur, prev, slot, nn, keys, false, ee⟩ = putN M slot := by unfold lkLetM; rw [hS]; rfl
        rw [e1, e2]
        exact rstep6 M c cur prev slot nn ee keys B lo aS aH aF aL cS cH cF cL aK cK w b m r hz _ (by omega) (fun W Z h => rput_fine h hM hS) HBk
end Go.Proofs.Ytaekgadokcmkfab.mm

/- Two memories of one's own, made in one row of the program, in whatever order its parts are reckoned. -/
namespace Go.Proofs.Ytaekgadokcmkfab.mm
open Go.ChangeShapes Go.WideShapes Go.ChangeAt Go.RowKit Go.Joins
set_option maxRecDepth 100000
set_option linter.unusedVariables false

def Rows4 (aS aH aF aL : Option Addr) (k : Nat) : Prop :=
  (∃ ad, aS = some ad ∧ ad.block = k) ∨ (∃ ad, aH = some ad ∧ ad.block = k) ∨ (∃ ad, aF = some ad ∧ ad.block = k) ∨ (∃ ad, aL = some ad ∧ ad.block = k)
theorem Rw.rows {w : World} {lo : Nat} {aS aH aF aL : Option Addr} {cS cH cF cL : Nat} {M : Mm} (r : Rw w lo aS aH aF aL cS cH cF cL M) : ∀ k, Rows4 aS aH aF aL k → lo ≤ k ∧ k < w.heap.size := by
  rintro k (⟨ad, rfl, rfl⟩ | ⟨ad, rfl, rfl⟩ | ⟨ad, rfl, rfl⟩ | ⟨ad, rfl, rfl⟩)
  · exact r.s.lt _ rfl
  · exact r.h.lt _ rfl
  · exact r.f.lt _ rfl
  · exact r.l.lt _ rfl
theorem Rw.low {w : World} {lo n : Nat} {aS aH aF aL : Option Addr} {cS cH cF cL : Nat} {M : Mm} (r : Rw w lo aS aH aF aL cS cH cF cL M) (h : n ≤ lo) : Rw w n aS aH aF aL cS cH cF cL M :=
  ⟨ownsRow_le r.s h, ownsRow_le r.h h, ownsRow_le r.f h, ownsRow_le r.l h, r.hf, r.hl, r.fl, Nat.le_trans h r.lz⟩

/- A value that is memory of one's own, its rows within Z. -/
def Got (W : World) (lo : Nat) (M : Mm) (Z : Nat → Prop) (v : Value) : Prop :=
  ∃ xS xH xF xL kS kH kF kL, v = .agg #[.slice xS M.slots.length kS, .slice xH M.heads.length kH, .slice xF M.free.length kF, .slice xL M.locks.length kL, .int .i64 M.now] ∧ Rw W lo xS xH xF xL kS kH kF kL M ∧ ∀ k, Rows4 xS xH xF xL k → Z k
theorem Got.below {W W' : World} {lo : Nat} {M : Mm} {Z : Nat → Prop} {v : Value} (g : Got W lo M Z v) (hb : Below W.heap.size W W') : Got W' lo M Z v := by
  obtain ⟨xS, xH, xF, xL, kS, kH, kF, kL, e, r, h⟩ := g
  exact ⟨xS, xH, xF, xL, kS, kH, kF, kL, e, r.below hb, h⟩
theorem Got.set5 {W : World} {lo B : Nat} {M : Mm} {Z : Nat → Prop} {v u0 u1 u2 u3 u4 : Value} (g : Got W lo M Z v) (hB : W.heap[B]? = some (.cells #[u0, u1, u2, u3, u4] 25 (0, 0))) (v0 v1 v2 v3 v4 : Value) : Got (set5 W B v0 v1 v2 v3 v4) lo M Z v := by
  obtain ⟨xS, xH, xF, xL, kS, kH, kF, kL, e, r, h⟩ := g
  exact ⟨xS, xH, xF, xL, kS, kH, kF, kL, e, r.set5 hB _ _ _ _ _, h⟩

def zeroTw : Obj := .cells #[.slice none 0 0, .slice none 0 0, .slice none 0 0, .slice none 0 0, .int .i64 0] 25 (0, 0)
def boxO (v : Value) : Obj := match v with
  | .agg cs => .cells cs 25 (0, 0)
  | _ => zeroTw
def updZ (Z : Nat → Nat → Prop) (i : Nat) (S : Nat → Prop) : Nat → Nat → Prop := fun j => if j = i then S else Z j
def New (W W' : World) (k : Nat) : Prop := W.heap.size ≤ k ∧ k < W'.heap.size

structure Tw (w2 : World) (M : Mm) (mv : Value) (L : Nat → Bool) (x : Nat → Value) (Z : Nat → Nat → Prop) (W : World) : Prop where
  bl : Below w2.heap.size w2 W
  rng : ∀ i k, Z i k → w2.heap.size ≤ k ∧ k < W.heap.size
  dj : ∀ i j k, Z i k → Z j k → i = j
  p0 : L 0 = true → x 18 = mv
  p2 : L 2 = true → x 20 = mv
  p1 : L 1 = true → Got W w2.heap.size M (Z 1) (x 19)
  p3 : L 3 = true → Got W w2.heap.size M (Z 3) (x 21)
  p4 : L 4 = true → ∃ B, x 5 = .pointer (some ⟨B, 0, none⟩) ∧ Z 4 B ∧ (L 6 = false → W.heap[B]? = some zeroTw) ∧ (L 6 = true → W.heap[B]? = some (boxO (x 19)))
  p5 : L 5 = true → ∃ B, x 6 = .pointer (some ⟨B, 0, none⟩) ∧ Z 5 B ∧ (L 7 = false → W.heap[B]? = some zeroTw) ∧ (L 7 = true → W.heap[B]? = some (boxO (x 21)))
  e6 : L 6 = true → L 1 = true ∧ L 4 = true
  e7 : L 7 = true → L 3 = true ∧ L 5 = true

section
variable {w2 W W' : World} {M : Mm} {mv v : Value} {L : Nat → Bool} {x : Nat → Value} {Z : Nat → Nat → Prop}

theorem Tw.start (hb : Below w2.heap.size w2 W) : Tw w2 M mv (fun _ => false) x (fun _ _ => False) W :=
  ⟨hb, (fun i k h => h.elim), (fun i j k h => h.elim), (fun h => by cases h), (fun h => by cases h), (fun h => by cases h), (fun h => by cases h), (fun h => by cases h), (fun h => by cases h), (fun h => by cases h), (fun h => by cases h)⟩

theorem box_below {B : Nat} {o : Obj} (h : W.heap[B]? = some o) (hb : Below W.heap.size W W') : W'.heap[B]? = some o := (hb.block B (lt_of_block h)).trans h

theorem tw_rng (T : Tw w2 M mv L x Z W) (hb : Below W.heap.size W W') (i : Nat) : ∀ j k, updZ Z i (New W W') j k → w2.heap.size ≤ k ∧ k < W'.heap.size := by
  intro j k h
  unfold updZ at h
  split at h
  · exact ⟨Nat.le_trans T.bl.size h.1, h.2⟩
  · exact ⟨(T.rng j k h).1, Nat.lt_of_lt_of_le (T.rng j k h).2 hb.size⟩
theorem tw_dj (T : Tw w2 M mv L x Z W) (i : Nat) : ∀ j l k, updZ Z i (New W W') j k → updZ Z i (New W W') l k → j = l := by
  intro j l k h1 h2
  unfold updZ at h1 h2
  split at h1 <;> split at h2
  · subst_vars; rfl
  · have := (T.rng l k h2).2; have := h1.1; omega
  · have := (T.rng j k h1).2; have := h2.1; omega
  · exact T.dj j l k h1 h2

theorem Tw.a0 (T : Tw w2 M mv L x Z W) : Tw w2 M mv (upd L 0) (updv x 18 mv) Z W :=
  ⟨T.bl, T.rng, T.dj, (fun _ => rfl), T.p2, T.p1, T.p3, T.p4, T.p5, T.e6, T.e7⟩
theorem Tw.a2 (T : Tw w2 M mv L x Z W) : Tw w2 M mv (upd L 2) (updv x 20 mv) Z W :=
  ⟨T.bl, T.rng, T.dj, T.p0, (fun _ => rfl), T.p1, T.p3, T.p4, T.p5, T.e6, T.e7⟩

theorem Tw.a1 (T : Tw w2 M mv L x Z W) (h1 : L 1 = false) (hb : Below W.heap.size W W') (g : Got W' W.heap.size M (fun _ => True) v) : Tw w2 M mv (upd L 1) (updv x 19 v) (updZ Z 1 (New W W')) W' := by
  have h6 : L 6 = false := by
    cases h : L 6
    · rfl
    · have := (T.e6 h).1; rw [h1] at this; cases this
  refine ⟨T.bl.trans (hb.mono T.bl.size), tw_rng T hb 1, tw_dj T 1, T.p0, T.p2, fun _ => ?_, fun h => (T.p3 h).below hb, fun h => ?_, fun h => ?_, (fun h => by have h' : L 6 = true := h; rw [h6] at h'; cases h'), T.e7⟩
  · obtain ⟨xS, xH, xF, xL, kS, kH, kF, kL, e, r, -⟩ := g
    exact ⟨xS, xH, xF, xL, kS, kH, kF, kL, e, r.low T.bl.size, fun k hk => r.rows k hk⟩
  · obtain ⟨B, e, hz, i1, i2⟩ := T.p4 h
    exact ⟨B, e, hz, (fun h' => box_below (i1 h') hb), fun h' => by have h'' : L 6 = true := h'; rw [h6] at h''; cases h''⟩
  · obtain ⟨B, e, hz, i1, i2⟩ := T.p5 h
    exact ⟨B, e, hz, (fun h' => box_below (i1 h') hb), fun h' => box_below (i2 h') hb⟩
theorem Tw.a3 (T : Tw w2 M mv L x Z W) (h3 : L 3 = false) (hb : Below W.heap.size W W') (g : Got W' W.heap.size M (fun _ => True) v) : Tw w2 M mv (upd L 3) (updv x 21 v) (updZ Z 3 (New W W')) W' := by
  have h7 : L 7 = false := by
    cases h : L 7
    · rfl
    · have := (T.e7 h).1; rw [h3] at this; cases this
  refine ⟨T.bl.trans (hb.mono T.bl.size), tw_rng T hb 3, tw_dj T 3, T.p0, T.p2, fun h => (T.p1 h).below hb, fun _ => ?_, fun h => ?_, fun h => ?_, T.e6, (fun h => by have h' : L 7 = true := h; rw [h7] at h'; cases h')⟩
  · obtain ⟨xS, xH, xF, xL, kS, kH, kF, kL, e, r, -⟩ := g
    exact ⟨xS, xH, xF, xL, kS, kH, kF, kL, e, r.low T.bl.size, fun k hk => r.rows k hk⟩
  · obtain ⟨B, e, hz, i1, i2⟩ := T.p4 h
    exact ⟨B, e, hz, (fun h' => box_below (i1 h') hb), fun h' => box_below (i2 h') hb⟩
  · obtain ⟨B, e, hz, i1, i2⟩ := T.p5 h
    exact ⟨B, e, hz, (fun h' => box_below (i1 h') hb), fun h' => by have h'' : L 7 = true := h'; rw [h7] at h''; cases h''⟩
theorem Tw.a4 (T : Tw w2 M mv L x Z W) (h4 : L 4 = false) : Tw w2 M mv (upd L 4) (updv x 5 (.pointer (some ⟨W.heap.size, 0, none⟩))) (updZ Z 4 (New W (W.alloc zeroTw))) (W.alloc zeroTw) := by
  have hb := one_below W zeroTw
  have h6 : L 6 = false := by
    cases h : L 6
    · rfl
    · have := (T.e6 h).2; rw [h4] at this; cases this
  refine ⟨T.bl.trans (hb.mono T.bl.size), tw_rng T hb 4, tw_dj T 4, T.p0, T.p2, fun h => (T.p1 h).below hb, fun h => (T.p3 h).below hb, fun _ => ?_, fun h => ?_, (fun h => by have h' : L 6 = true := h; rw [h6] at h'; cases h'), T.e7⟩
  · exact ⟨W.heap.size, rfl, ⟨Nat.le_refl _, lt_of_block (heap_alloc_new W zeroTw)⟩, (fun _ => heap_alloc_new W zeroTw), fun h' => by have h'' : L 6 = true := h'; rw [h6] at h''; cases h''⟩
  · obtain ⟨B, e, hz, i1, i2⟩ := T.p5 h
    exact ⟨B, e, hz, (fun h' => box_below (i1 h') hb), fun h' => box_below (i2 h') hb⟩
theorem Tw.a5 (T : Tw w2 M mv L x Z W) (h5 : L 5 = false) : Tw w2 M mv (upd L 5) (updv x 6 (.pointer (some ⟨W.heap.size, 0, none⟩))) (updZ Z 5 (New W (W.alloc zeroTw))) (W.alloc zeroTw) := by
  have hb := one_below W zeroTw
  have h7 : L 7 = false := by
    cases h : L 7
    · rfl
    · have := (T.e7 h).2; rw [h5] at this; cases this
  refine ⟨T.bl.trans (hb.mono T.bl.size), tw_rng T hb 5, tw_dj T 5, T.p0, T.p2, fun h => (T.p1 h).below hb, fun h => (T.p3 h).below hb, fun h => ?_, fun _ => ?_, T.e6, (fun h => by have h' : L 7 = true := h; rw [h7] at h'; cases h')⟩
  · obtain ⟨B, e, hz, i1, i2⟩ := T.p4 h
    exact ⟨B, e, hz, (fun h' => box_below (i1 h') hb), fun h' => box_below (i2 h') hb⟩
  · exact ⟨W.heap.size, rfl, ⟨Nat.le_refl _, lt_of_block (heap_alloc_new W zeroTw)⟩, (fun _ => heap_alloc_new W zeroTw), fun h' => by have h'' : L 7 = true := h'; rw [h7] at h''; cases h''⟩

theorem tw_other {B k : Nat} (h : k ≠ B) (v0 v1 v2 v3 v4 : Value) : (set5 W B v0 v1 v2 v3 v4).heap[k]? = W.heap[k]? := set5_other h
theorem tw_size {B : Nat} (v0 v1 v2 v3 v4 : Value) : (set5 W B v0 v1 v2 v3 v4).heap.size = W.heap.size := set5_size _ _ _ _ _ _ _
theorem tw_below {B n : Nat} (h : n ≤ B) (v0 v1 v2 v3 v4 : Value) : Below n W (set5 W B v0 v1 v2 v3 v4) := set5_below _ _ _ _ _ _ _ _ h

theorem Tw.a6 {B : Nat} {v0 v1 v2 v3 v4 : Value} (T : Tw w2 M mv L x Z W) (g1 : L 1 = true) (g4 : L 4 = true) (h6 : L 6 = false) (hB : x 5 = .pointer (some ⟨B, 0, none⟩)) (hv : x 19 = .agg #[v0, v1, v2, v3, v4]) : Tw w2 M mv (upd L 6) x Z (set5 W B v0 v1 v2 v3 v4) := by
  obtain ⟨B', e, hz, i1, -⟩ := T.p4 g4
  rw [hB] at e
  injection e with e; injection e with e; injection e with e
  subst e
  have hz0 := i1 h6
  refine ⟨T.bl.trans (tw_below (T.rng 4 B hz).1 _ _ _ _ _), fun i k h => by rw [tw_size]; exact T.rng i k h, T.dj, T.p0, T.p2, fun h => (T.p1 h).set5 hz0 _ _ _ _ _, fun h => (T.p3 h).set5 hz0 _ _ _ _ _, fun _ => ?_, fun h => ?_, fun _ => ⟨g1, g4⟩, T.e7⟩
  · refine ⟨B, hB, hz, (fun h => by cases h), fun _ => ?_⟩
    rw [hv]
    exact set5_block hz0 _ _ _ _ _
  · obtain ⟨B5, e5, hz5, j1, j2⟩ := T.p5 h
    have hne : B5 ≠ B := by rintro rfl; have := T.dj 4 5 _ hz hz5; omega
    exact ⟨B5, e5, hz5, (fun h' => (tw_other hne _ _ _ _ _).trans (j1 h')), fun h' => (tw_other hne _ _ _ _ _).trans (j2 h')⟩
theorem Tw.a7 {B : Nat} {v0 v1 v2 v3 v4 : Value} (T : Tw w2 M mv L x Z W) (g3 : L 3 = true) (g5 : L 5 = true) (h7 : L 7 = false) (hB : x 6 = .pointer (some ⟨B, 0, none⟩)) (hv : x 21 = .agg #[v0, v1, v2, v3, v4]) : Tw w2 M mv (upd L 7) x Z (set5 W B v0 v1 v2 v3 v4) := by
  obtain ⟨B', e, hz, i1, -⟩ := T.p5 g5
  rw [hB] at e
  injection e with e; injection e with e; injection e with e
  subst e
  have hz0 := i1 h7
  refine ⟨T.bl.trans (tw_below (T.rng 5 B hz).1 _ _ _ _ _), fun i k h => by rw [tw_size]; exact T.rng i k h, T.dj, T.p0, T.p2, fun h => (T.p1 h).set5 hz0 _ _ _ _ _, fun h => (T.p3 h).set5 hz0 _ _ _ _ _, fun h => ?_, fun _ => ?_, T.e6, fun _ => ⟨g3, g5⟩⟩
  · obtain ⟨B5, e5, hz5, j1, j2⟩ := T.p4 h
    have hne : B5 ≠ B := by rintro rfl; have := T.dj 4 5 _ hz5 hz; omega
    exact ⟨B5, e5, hz5, (fun h' => (tw_other hne _ _ _ _ _).trans (j1 h')), fun h' => (tw_other hne _ _ _ _ _).trans (j2 h')⟩
  · refine ⟨B, hB, hz, (fun h => by cases h), fun _ => ?_⟩
    rw [hv]
    exact set5_block hz0 _ _ _ _ _

/- In the end there are two boxes, with a memory of one's own in each, apart from each other. -/
theorem Tw.fin (T : Tw w2 M mv L x Z W) (g6 : L 6 = true) (g7 : L 7 = true)
    (m1 : M.slots.length * 48 ≤ 140737488351232) (m2 : M.heads.length * 8 ≤ 140737488351232) (m3 : M.free.length * 8 ≤ 140737488351000) (m4 : M.locks.length * 8 ≤ 140737488351232) :
    ∃ Bx By xS xH xF xL kS kH kF kL yS yH yF yL jS jH jF jL, x 5 = .pointer (some ⟨Bx, 0, none⟩) ∧ x 6 = .pointer (some ⟨By, 0, none⟩) ∧ Mine W Bx w2.heap.size xS xH xF xL kS kH kF kL M ∧ Mine W By w2.heap.size yS yH yF yL jS jH jF jL M ∧
      (∀ k, Foot Bx xS xH xF xL k → w2.heap.size ≤ k) ∧ (∀ k, Foot By yS yH yF yL k → w2.heap.size ≤ k ∧ ¬ Foot Bx xS xH xF xL k) := by
  obtain ⟨g1, g4⟩ := T.e6 g6
  obtain ⟨g3, g5⟩ := T.e7 g7
  obtain ⟨xS, xH, xF, xL, kS, kH, kF, kL, ex, rx, hx⟩ := T.p1 g1
  obtain ⟨yS, yH, yF, yL, jS, jH, jF, jL, ey, ry, hy⟩ := T.p3 g3
  obtain ⟨Bx, e5, z5, -, b5⟩ := T.p4 g4
  obtain ⟨By, e6, z6, -, b6⟩ := T.p5 g5
  have b5' := b5 g6
  have b6' := b6 g7
  rw [ex] at b5'
  rw [ey] at b6'
  have fx : ∀ k, Foot Bx xS xH xF xL k → Z 4 k ∨ Z 1 k := by
    rintro k (rfl | h)
    · exact .inl z5
    · exact .inr (hx k h)
  have fy : ∀ k, Foot By yS yH yF yL k → Z 5 k ∨ Z 3 k := by
    rintro k (rfl | h)
    · exact .inl z6
    · exact .inr (hy k h)
  refine ⟨Bx, By, xS, xH, xF, xL, kS, kH, kF, kL, yS, yH, yF, yL, jS, jH, jF, jL, e5, e6, ⟨b5', rx, m1, m2, m3, m4⟩, ⟨b6', ry, m1, m2, m3, m4⟩, fun k h => ?_, fun k h => ⟨?_, fun h' => ?_⟩⟩
  · rcases fx k h with h | h
    · exact (T.rng _ k h).1
    · exact (T.rng _ k h).1
  · rcases fy k h with h | h
    · exact (T.rng _ k h).1
    · exact (T.rng _ k h).1
  · rcases fy k h with h | h <;> rcases fx k h' with h' | h'
    · have := T.dj _ _ k h h'; omega
    · have := T.dj _ _ k h h'; omega
    · have := T.dj _ _ k h h'; omega
    · have := T.dj _ _ k h h'; omega
end

theorem wp_region_at {P : Program} {ops : Array Oper} {Q : Exit → Act → World → Prop} {id : Nat} {a : Act} {w : World} (hm : P.follows .mixedOrders = true) (mk : (Nat → Value) → Act) (ha : a = mk fun k => a.tmps.getD k undef) (J : (Nat → Value) → Array Bool → (Nat → Value) → World → Prop)
    (start : J (fun k => a.tmps.getD k undef) (Array.replicate ops.size false) (fun k => a.tmps.getD k undef) { w with drawn := w.drawn + 1 })
    (step : ∀ listed x W i, i ∈ Region.ready .any ops listed → J (fun k => a.tmps.getD k undef) listed x W → wpOp P ops Q i (fun a' W' => ∃ x', a' = mk x' ∧ J (fun k => a.tmps.getD k undef) (listed.setIfInBounds i true) x' W') (mk x) W)
    (fin : ∀ listed x W, Region.ready .any ops listed = [] → J (fun k => a.tmps.getD k undef) listed x W → Q .normal (mk x) W) : (Code.region id ops true).wp P Q a w :=
  wp_region_inv hm (fun l a' W => ∃ x, a' = mk x ∧ J (fun k => a.tmps.getD k undef) l x W) ⟨_, ha, start⟩ (by rintro l a' W i hi ⟨x, rfl, hJ⟩; exact step l x W i hi hJ) (by rintro l a' W hr ⟨x, rfl, hJ⟩; exact fin l x W hr hJ)

theorem wpOp_in {P : Program} {ops : Array Oper} {Q : Exit → Act → World → Prop} {i : Nat} {o : Oper} {a : Act} {w : World} {f : Nat} {args : Array Value} {K : Act → World → Prop} (hi : ops[i]? = some o) (hg : o.guard = none)
    (hr : (execOp a.eval o).run P w = .ok (.enter f args) w) (h : Calls P f args w fun e w' => ∃ v, e = .returned v ∧ K (a.put o.dst v) w') : wpOp P ops Q i K a w := by
  refine wpOp_step hi fun K' hK => ?_
  have hw : Region.wanted o (yielded ops a.tmps) = true := by unfold Region.wanted; rw [hg]
  rw [if_pos hw]
  unfold Oper.wp
  rw [hr]
  refine Calls.mono h ?_
  rintro e w' ⟨v, rfl, hv⟩
  exact hK _ _ hv

/- What a region's walk carries: what has come up, and what no operation changes. -/
def Jt (w2 : World) (M : Mm) (mv : Value) (b : Nat → Value) (listed : Array Bool) (x : Nat → Value) (W : World) : Prop :=
  listed.size = 8 ∧ (∀ k, k ∉ [5, 6, 18, 19, 20, 21] → x k = b k) ∧ ∃ Z, Tw w2 M mv (fun i => listed.getD i false) x Z W
theorem Jt.next {w2 W W' : World} {M : Mm} {mv : Value} {b : Nat → Value} {listed : Array Bool} {x x' : Nat → Value} {Z : Nat → Nat → Prop} (J : Jt w2 M mv b listed x W) (i : Nat) (hi : i < 8) (hx : ∀ k, k ∉ [5, 6, 18, 19, 20, 21] → x' k = x k) (T : Tw w2 M mv (upd (fun k => listed.getD k false) i) x' Z W') : Jt w2 M mv b (listed.setIfInBounds i true) x' W' := by
  refine ⟨by simpa using J.1, fun k hk => (hx k hk).trans (J.2.1 k hk), Z, ?_⟩
  have e : (fun k => (listed.setIfInBounds i true).getD k false) = upd (fun k => listed.getD k false) i := by
    funext k
    have := J.1
    by_cases hk : k = i
    · subst hk
      simp [upd, Array.getD_eq_getD_getElem?, J.1, hi]
    · have hk' : ¬ i = k := fun e => hk e.symm
      simp [upd, hk, Array.getD_eq_getD_getElem?, hk']
  rw [e]
  exact T
theorem updv_out {x : Nat → Value} {d : Nat} {v : Value} (hd : d ∈ [5, 6, 18, 19, 20, 21]) : ∀ k, k ∉ [5, 6, 18, 19, 20, 21] → updv x d v k = x k := by
  intro k hk
  unfold updv
  rw [if_neg]
  rintro rfl
  exact hk hd
end Go.Proofs.Ytaekgadokcmkfab.mm
