/- The document's own AddStep: where it goes next. -/
import Derived.Test.YtdbilofhcadmoabC21
import Derived.Test.YtdbilofhcadmoabC22
import Derived.BigRegion
import Derived.Deep.QuietTactic
import Derived.BigQuiet
import Derived.Lib.QuietBelow
namespace Go.Proofs.Ytdbilofhcadmoab.mm
open Go.ChangeShapes Go.WideShapes Go.ChangeAt Go.RowKit Go.Joins Go.Deep Go.Sort
set_option maxRecDepth 100000
set_option linter.unusedVariables false

set_option maxHeartbeats 1600000 in
theorem adto_any (f : Fr) (n : Int) (X : Nat) (aK : Option Addr) (cK : Nat) (w : World) (hX : w.heap[X]? = some (.cells #[.int .i64 f.c.kind, .int .i64 f.c.a, .int .i64 f.c.b, .int .i64 f.c.time, .int .i64 f.c.bk, .int .i64 f.c.slot, .int .i64 f.pl, .int .i64 f.cur, .int .i64 f.prev, .int .i64 f.slot, .int .i64 f.n, .slice aK f.keys.length cK, .bool f.done, .int .i64 f.e] 51 (0, 0))) :
    Calls Try.prog 121 #[.int .i64 n, .pointer (some ⟨X, 0, none⟩)] w fun e w' => e = .returned (.agg #[.int .i64 (toF f n).c.kind, .int .i64 (toF f n).c.a, .int .i64 (toF f n).c.b, .int .i64 (toF f n).c.time, .int .i64 (toF f n).c.bk, .int .i64 (toF f n).c.slot, .int .i64 (toF f n).pl, .int .i64 (toF f n).cur, .int .i64 (toF f n).prev, .int .i64 (toF f n).slot, .int .i64 (toF f n).n, .slice aK (toF f n).keys.length cK, .bool (toF f n).done, .int .i64 (toF f n).e]) ∧ Fine w w' (fun k => k = X) ∧ w'.heap[X]? = some (.cells #[.int .i64 (toF f n).c.kind, .int .i64 (toF f n).c.a, .int .i64 (toF f n).c.b, .int .i64 (toF f n).c.time, .int .i64 (toF f n).c.bk, .int .i64 (toF f n).c.slot, .int .i64 (toF f n).pl, .int .i64 (toF f n).cur, .int .i64 (toF f n).prev, .int .i64 (toF f n).slot, .int .i64 (toF f n).n, .slice aK (toF f n).keys.length cK, .bool (toF f n).done, .int .i64 (toF f n).e] 51 (0, 0)) := by
  obtain ⟨f0, f1, f2, f3, f4, f5, f6, f7, f8, f9, f10, f11, f12, f13, ff, fs⟩ := framef hX
  have HX : Hid (w.heap[X]? = some (.cells #[.int .i64 f.c.kind, .int .i64 f.c.a, .int .i64 f.c.b, .int .i64 f.c.time, .int .i64 f.c.bk, .int .i64 f.c.slot, .int .i64 f.pl, .int .i64 f.cur, .int .i64 f.prev, .int .i64 f.slot, .int .i64 f.n, .slice aK f.keys.length cK, .bool f.done, .int .i64 f.e] 51 (0, 0))) := hX
  clear hX
  go_enter Try.func121, Try.ntmps121
  go_wp2
  refine bodyPost_ret (v := .agg #[.int .i64 (toF f n).c.kind, .int .i64 (toF f n).c.a, .int .i64 (toF f n).c.b, .int .i64 (toF f n).c.time, .int .i64 (toF f n).c.bk, .int .i64 (toF f n).c.slot, .int .i64 (toF f n).pl, .int .i64 (toF f n).cur, .int .i64 (toF f n).prev, .int .i64 (toF f n).slot, .int .i64 (toF f n).n, .slice aK (toF f n).keys.length cK, .bool (toF f n).done, .int .i64 (toF f n).e]) (by simp [results, Try.results121, go_sem, toF]) rfl ⟨rfl, ((Fine.refl w (fun k => k = X)).set (k := X) (.inl rfl) 6 _).below (one_below _ _), ?_⟩
  rw [Below.heap_alloc _ _ _ (by simp; exact fs), block_setCell HX.out]
  rfl

end Go.Proofs.Ytdbilofhcadmoab.mm

/- The contract of the document's own AddStep: taking, locking. -/
namespace Go.Proofs.Ytdbilofhcadmoab.mm
open Go.ChangeShapes Go.WideShapes Go.ChangeAt Go.RowKit Go.Joins Go.Deep Go.Sort
set_option maxRecDepth 100000
set_option linter.unusedVariables false

set_option maxHeartbeats 3200000 in
theorem rad0a (t : Int) (M : Mm) (c : Cl) (cur prev slot nn ee : Int) (keys : List (Int × Int)) (B lo : Nat) (aS aH aF aL : Option Addr) (cS cH cF cL : Nat) (aK : Option Addr) (cK : Nat) (w : World) (b : Nat)
    (m : Mine w B lo aS aH aF aL cS cH cF cL M) (HR : Hid (KRow w aK cK keys)) (HZ : Hid (∀ ad, aK = some ad → ¬ Foot B aS aH aF aL ad.block)) (h0 : 0 ≤ M.now) (h1 : M.now ≤ 1000000) (h2 : 1 ≤ c.time) (h3 : c.time ≤ 1000000) (M' : Mm) (HTk : Hid (∀ (W : World) (Z : Nat → Prop), Has W B lo Z M → Calls Try.prog 122 #[.pointer (some ⟨B, 0, none⟩), .agg #[.int .i64 c.a, .int .i64 c.b], .int .i64 (M.now + c.time)] W fun e w' => e = .returned (.tuple #[.int .i64 0, .bool false]) ∧ Has w' B lo (Up W Z) M' ∧ Fine W w' Z))
    (HBk : Hid (∀ W : World, Calls Try.prog 32 #[.agg #[.slice aS M.slots.length cS, .slice aH M.heads.length cH, .slice aF M.free.length cF, .slice aL M.locks.length cL, .int .i64 M.now], .agg #[.int .i64 c.kind, .int .i64 c.a, .int .i64 c.b, .int .i64 c.time, .int .i64 c.bk, .int .i64 c.slot]] W fun e w' => e = .returned (.int .i64 (b : Int)) ∧ Below W.heap.size W w')) :
    Calls Try.prog 52 #[.pointer (some ⟨B, 0, none⟩), .agg #[.int .i64 c.kind, .int .i64 c.a, .int .i64 c.b, .int .i64 c.time, .int .i64 c.bk, .int .i64 c.slot, .int .i64 0, .int .i64 cur, .int .i64 prev, .int .i64 slot, .int .i64 nn, .slice aK keys.length cK, .bool false, .int .i64 ee], .int .i64 t] w fun e w' => Ret w w' e (endF ⟨c, 0, cur, prev, slot, nn, keys, false, ee⟩ 7) aK cK ∧ Has w' B lo (Up w (Foot B aS aH aF aL)) (M') ∧ Fine w w' (Foot B aS aH aF aL) := by
  have hns2 : ¬ 2000000 < M.now + c.time := by omega
  obtain ⟨of, hof⟩ : ∃ o : Obj, o = .cells #[.int .i64 c.kind, .int .i64 c.a, .int .i64 c.b, .int .i64 c.time, .int .i64 c.bk, .int .i64 c.slot, .int .i64 0, .int .i64 cur, .int .i64 prev, .int .i64 slot, .int .i64 nn, .slice aK keys.length cK, .bool false, .int .i64 ee] 51 := ⟨_, rfl⟩
  obtain ⟨oz, hoz⟩ : ∃ o : Obj, o = zeroFr := ⟨_, rfl⟩
  have HE : Hid (Lk w ((w.alloc of).alloc oz) B lo aS aH aF aL cS cH cF cL M ⟨c, 0, cur, prev, slot, nn, keys, false, ee⟩ aK cK) := Lk.first m ⟨c, 0, cur, prev, slot, nn, keys, false, ee⟩ aK cK hof hoz
  obtain ⟨f0, f1, f2, f3, f4, f5, f6, f7, f8, f9, f10, f11, f12, f13, ff, fs⟩ := framef (show ((w.alloc of).alloc oz).heap[w.heap.size]? = some (.cells #[.int .i64 c.kind, .int .i64 c.a, .int .i64 c.b, .int .i64 c.time, .int .i64 c.bk, .int .i64 c.slot, .int .i64 0, .int .i64 cur, .int .i64 prev, .int .i64 slot, .int .i64 nn, .slice aK keys.length cK, .bool false, .int .i64 ee] 51 (0, 0)) from HE.out.fb)
  obtain ⟨q0, q1, q2, q3, q4, -, -, -, -, -, qs⟩ := boxf HE.out.m.box
  unfold zeroFr at hoz
  clear m
  go_enter Try.func52, Try.ntmps52
  go_wp2_with fail
  rw [← hof, ← hoz]
  generalize (w.alloc of).alloc oz = W0 at *
  subst hof hoz
  have cB : ∀ (d : Nat) (os : Array Obj), Calls Try.prog 32 #[.agg #[.slice aS M.slots.length cS, .slice aH M.heads.length cH, .slice aF M.free.length cF, .slice aL M.locks.length cL, .int .i64 M.now], .agg #[.int .i64 c.kind, .int .i64 c.a, .int .i64 c.b, .int .i64 c.time, .int .i64 c.bk, .int .i64 c.slot]] (grow (redrawn W0 d) os) fun e w'' => e = .returned (.int .i64 (b : Int)) ∧ ∃ p : Regrown, w'' = grow (redrawn W0 p.d) p.os := fun d os => Calls.regrown_of (HBk.out _)
  have Xq0 := cell_regrown q0
  have Xq1 := cell_regrown q1
  have Xq2 := cell_regrown q2
  have Xq3 := cell_regrown q3
  have Xq4 := cell_regrown q4
  have Xf0 := cell_regrown f0
  have Xf1 := cell_regrown f1
  have Xf2 := cell_regrown f2
  have Xf3 := cell_regrown f3
  have Xf4 := cell_regrown f4
  have Xf5 := cell_regrown f5
  clear q0 q1 q2 q3 q4 qs
  clear f0 f1 f2 f3 f4 f5 f6 f7 f8 f9 f10 f11 f12 f13 ff fs
  refine wp_region_quiet_below (by kernel_rfl) (by kernel_rfl) ?_
  repeat (quiet_step (first | exact cB _ _))
  refine wpQuiet_nil ?_
  intro _ hw'
  obtain ⟨⟨dq, osq⟩, hw''⟩ := hw'
  subst hw''
  have HE1 : Hid (Lk w (grow (redrawn W0 dq) osq) B lo aS aH aF aL cS cH cF cL M ⟨c, 0, cur, prev, slot, nn, keys, false, ee⟩ aK cK) := HE.out.below (below_regrown W0 dq osq)
  generalize grow (redrawn W0 dq) osq = w1 at *
  clear Xq0 Xq1 Xq2 Xq3 Xq4 Xf0 Xf1 Xf2 Xf3 Xf4 Xf5 HE
  clear cB HBk
  obtain ⟨f0, f1, f2, f3, f4, f5, f6, f7, f8, f9, f10, f11, f12, f13, ff, fs⟩ := framef (show w1.heap[w.heap.size]? = some (.cells #[.int .i64 c.kind, .int .i64 c.a, .int .i64 c.b, .int .i64 c.time, .int .i64 c.bk, .int .i64 c.slot, .int .i64 0, .int .i64 cur, .int .i64 prev, .int .i64 slot, .int .i64 nn, .slice aK keys.length cK, .bool false, .int .i64 ee] 51 (0, 0)) from HE1.out.fb)
  obtain ⟨q0, q1, q2, q3, q4, -, -, -, -, -, qs⟩ := boxf HE1.out.m.box
  go_wp2_with fail
  go_quiet (fail)
  go_wp2_with fail
  have HE1b : Hid (Lk w (w1.drewN nq) B lo aS aH aF aL cS cH cF cL M ⟨c, 0, cur, prev, slot, nn, keys, false, ee⟩ aK cK) := HE1.out.below (w2 := w1.drewN nq) ⟨rfl, rfl, rfl, Nat.le_refl _, fun _ _ => rfl⟩
  clear HE1
  refine (HTk.out _ (Foot B aS aH aF aL) (by exact ⟨_, _, _, _, _, _, _, _, HE1b.out.m, fun _ h => h⟩)).mono ?_
  rintro e w2 ⟨rfl, hh2, hf2⟩
  have HE2 : Hid (Lk2 w w2 (Foot B aS aH aF aL) B lo M' ⟨c, 0, cur, prev, slot, nn, keys, false, ee⟩ aK cK) := HE1b.out.after hh2 hf2
  clear HE1b hh2 hf2
  clear q0 q1 q2 q3 q4 qs
  clear f0 f1 f2 f3 f4 f5 f6 f7 f8 f9 f10 f11 f12 f13 ff fs
  obtain ⟨f0, f1, f2, f3, f4, f5, f6, f7, f8, f9, f10, f11, f12, f13, ff, fs⟩ := framef (show w2.heap[w.heap.size]? = some (.cells #[.int .i64 c.kind, .int .i64 c.a, .int .i64 c.b, .int .i64 c.time, .int .i64 c.bk, .int .i64 c.slot, .int .i64 0, .int .i64 cur, .int .i64 prev, .int .i64 slot, .int .i64 nn, .slice aK keys.length cK, .bool false, .int .i64 ee] 51 (0, 0)) from HE2.out.fb)
  go_wp2_with fail
  refine (over_anyA ⟨c, 0, cur, prev, slot, nn, keys, false, ee⟩ 7 aK cK _).mono ?_
  rintro e w9 ⟨rfl, hb9⟩
  have HE9 : Hid (Lk2 w w9 (Foot B aS aH aF aL) B lo M' ⟨c, 0, cur, prev, slot, nn, keys, false, ee⟩ aK cK) := HE2.out.below hb9
  clear HE2 hb9
  clear f0 f1 f2 f3 f4 f5 f6 f7 f8 f9 f10 f11 f12 f13 ff fs
  obtain ⟨g0, g1, g2, g3, g4, g5, g6, g7, g8, g9, g10, g11, g12, g13, gf, gs⟩ := framef HE9.out.zb
  go_wp2
  refine bodyPost_ret (v := .agg #[.int .i64 (endF ⟨c, 0, cur, prev, slot, nn, keys, false, ee⟩ 7).c.kind, .int .i64 (endF ⟨c, 0, cur, prev, slot, nn, keys, false, ee⟩ 7).c.a, .int .i64 (endF ⟨c, 0, cur, prev, slot, nn, keys, false, ee⟩ 7).c.b, .int .i64 (endF ⟨c, 0, cur, prev, slot, nn, keys, false, ee⟩ 7).c.time, .int .i64 (endF ⟨c, 0, cur, prev, slot, nn, keys, false, ee⟩ 7).c.bk, .int .i64 (endF ⟨c, 0, cur, prev, slot, nn, keys, false, ee⟩ 7).c.slot, .int .i64 (endF ⟨c, 0, cur, prev, slot, nn, keys, false, ee⟩ 7).pl, .int .i64 (endF ⟨c, 0, cur, prev, slot, nn, keys, false, ee⟩ 7).cur, .int .i64 (endF ⟨c, 0, cur, prev, slot, nn, keys, false, ee⟩ 7).prev, .int .i64 (endF ⟨c, 0, cur, prev, slot, nn, keys, false, ee⟩ 7).slot, .int .i64 (endF ⟨c, 0, cur, prev, slot, nn, keys, false, ee⟩ 7).n, .slice aK (endF ⟨c, 0, cur, prev, slot, nn, keys, false, ee⟩ 7).keys.length cK, .bool (endF ⟨c, 0, cur, prev, slot, nn, keys, false, ee⟩ 7).done, .int .i64 (endF ⟨c, 0, cur, prev, slot, nn, keys, false, ee⟩ 7).e]) (by simp [results, Try.results52, go_sem, endF, g0, g1, g2, g3, g4, g5, g6, g7, g8, g9, g10, g11, g12, g13]) rfl ⟨⟨aK, cK, rfl, HR.out.fine HE9.out.end14.2 HZ.out, (fun ad h => .inl h), fun _ => ⟨rfl, rfl⟩⟩, HE9.out.end14⟩

set_option maxHeartbeats 3200000 in
theorem rad0b (t : Int) (M : Mm) (c : Cl) (cur prev slot nn ee : Int) (keys : List (Int × Int)) (B lo : Nat) (aS aH aF aL : Option Addr) (cS cH cF cL : Nat) (aK : Option Addr) (cK : Nat) (w : World) (b : Nat)
    (m : Mine w B lo aS aH aF aL cS cH cF cL M) (HR : Hid (KRow w aK cK keys)) (HZ : Hid (∀ ad, aK = some ad → ¬ Foot B aS aH aF aL ad.block)) (la : Int) (h0 : 0 ≤ M.now) (h1 : M.now ≤ 1000000) (h2 : 1 ≤ c.time) (h3 : c.time ≤ 1000000) (M' : Mm) (HTk : Hid (∀ (W : World) (Z : Nat → Prop), Has W B lo Z M → Calls Try.prog 122 #[.pointer (some ⟨B, 0, none⟩), .agg #[.int .i64 c.a, .int .i64 c.b], .int .i64 (M.now + c.time)] W fun e w' => e = .returned (.tuple #[.int .i64 la, .bool true]) ∧ Has w' B lo (Up W Z) M' ∧ Fine W w' Z))
    (HBk : Hid (∀ W : World, Calls Try.prog 32 #[.agg #[.slice aS M.slots.length cS, .slice aH M.heads.length cH, .slice aF M.free.length cF, .slice aL M.locks.length cL, .int .i64 M.now], .agg #[.int .i64 c.kind, .int .i64 c.a, .int .i64 c.b, .int .i64 c.time, .int .i64 c.bk, .int .i64 c.slot]] W fun e w' => e = .returned (.int .i64 (b : Int)) ∧ Below W.heap.size W w')) :
    Calls Try.prog 52 #[.pointer (some ⟨B, 0, none⟩), .agg #[.int .i64 c.kind, .int .i64 c.a, .int .i64 c.b, .int .i64 c.time, .int .i64 c.bk, .int .i64 c.slot, .int .i64 0, .int .i64 cur, .int .i64 prev, .int .i64 slot, .int .i64 nn, .slice aK keys.length cK, .bool false, .int .i64 ee], .int .i64 t] w fun e w' => Ret w w' e (handF ⟨c, 0, cur, prev, slot, nn, keys, false, ee⟩ la 1) aK cK ∧ Has w' B lo (Up w (Foot B aS aH aF aL)) (M') ∧ Fine w w' (Foot B aS aH aF aL) := by
  have hns2 : ¬ 2000000 < M.now + c.time := by omega
  obtain ⟨of, hof⟩ : ∃ o : Obj, o = .cells #[.int .i64 c.kind, .int .i64 c.a, .int .i64 c.b, .int .i64 c.time, .int .i64 c.bk, .int .i64 c.slot, .int .i64 0, .int .i64 cur, .int .i64 prev, .int .i64 slot, .int .i64 nn, .slice aK keys.length cK, .bool false, .int .i64 ee] 51 := ⟨_, rfl⟩
  obtain ⟨oz, hoz⟩ : ∃ o : Obj, o = zeroFr := ⟨_, rfl⟩
  have HE : Hid (Lk w ((w.alloc of).alloc oz) B lo aS aH aF aL cS cH cF cL M ⟨c, 0, cur, prev, slot, nn, keys, false, ee⟩ aK cK) := Lk.first m ⟨c, 0, cur, prev, slot, nn, keys, false, ee⟩ aK cK hof hoz
  obtain ⟨f0, f1, f2, f3, f4, f5, f6, f7, f8, f9, f10, f11, f12, f13, ff, fs⟩ := framef (show ((w.alloc of).alloc oz).heap[w.heap.size]? = some (.cells #[.int .i64 c.kind, .int .i64 c.a, .int .i64 c.b, .int .i64 c.time, .int .i64 c.bk, .int .i64 c.slot, .int .i64 0, .int .i64 cur, .int .i64 prev, .int .i64 slot, .int .i64 nn, .slice aK keys.length cK, .bool false, .int .i64 ee] 51 (0, 0)) from HE.out.fb)
  obtain ⟨q0, q1, q2, q3, q4, -, -, -, -, -, qs⟩ := boxf HE.out.m.box
  unfold zeroFr at hoz
  clear m
  go_enter Try.func52, Try.ntmps52
  go_wp2_with fail
  rw [← hof, ← hoz]
  generalize (w.alloc of).alloc oz = W0 at *
  subst hof hoz
  have cB : ∀ (d : Nat) (os : Array Obj), Calls Try.prog 32 #[.agg #[.slice aS M.slots.length cS, .slice aH M.heads.length cH, .slice aF M.free.length cF, .slice aL M.locks.length cL, .int .i64 M.now], .agg #[.int .i64 c.kind, .int .i64 c.a, .int .i64 c.b, .int .i64 c.time, .int .i64 c.bk, .int .i64 c.slot]] (grow (redrawn W0 d) os) fun e w'' => e = .returned (.int .i64 (b : Int)) ∧ ∃ p : Regrown, w'' = grow (redrawn W0 p.d) p.os := fun d os => Calls.regrown_of (HBk.out _)
  have Xq0 := cell_regrown q0
  have Xq1 := cell_regrown q1
  have Xq2 := cell_regrown q2
  have Xq3 := cell_regrown q3
  have Xq4 := cell_regrown q4
  have Xf0 := cell_regrown f0
  have Xf1 := cell_regrown f1
  have Xf2 := cell_regrown f2
  have Xf3 := cell_regrown f3
  have Xf4 := cell_regrown f4
  have Xf5 := cell_regrown f5
  clear q0 q1 q2 q3 q4 qs
  clear f0 f1 f2 f3 f4 f5 f6 f7 f8 f9 f10 f11 f12 f13 ff fs
  refine wp_region_quiet_below (by kernel_rfl) (by kernel_rfl) ?_
  repeat (quiet_step (first | exact cB _ _))
  refine wpQuiet_nil ?_
  intro _ hw'
  obtain ⟨⟨dq, osq⟩, hw''⟩ := hw'
  subst hw''
  have HE1 : Hid (Lk w (grow (redrawn W0 dq) osq) B lo aS aH aF aL cS cH cF cL M ⟨c, 0, cur, prev, slot, nn, keys, false, ee⟩ aK cK) := HE.out.below (below_regrown W0 dq osq)
  generalize grow (redrawn W0 dq) osq = w1 at *
  clear Xq0 Xq1 Xq2 Xq3 Xq4 Xf0 Xf1 Xf2 Xf3 Xf4 Xf5 HE
  clear cB HBk
  obtain ⟨f0, f1, f2, f3, f4, f5, f6, f7, f8, f9, f10, f11, f12, f13, ff, fs⟩ := framef (show w1.heap[w.heap.size]? = some (.cells #[.int .i64 c.kind, .int .i64 c.a, .int .i64 c.b, .int .i64 c.time, .int .i64 c.bk, .int .i64 c.slot, .int .i64 0, .int .i64 cur, .int .i64 prev, .int .i64 slot, .int .i64 nn, .slice aK keys.length cK, .bool false, .int .i64 ee] 51 (0, 0)) from HE1.out.fb)
  obtain ⟨q0, q1, q2, q3, q4, -, -, -, -, -, qs⟩ := boxf HE1.out.m.box
  go_wp2_with fail
  go_quiet (fail)
  go_wp2_with fail
  have HE1b : Hid (Lk w (w1.drewN nq) B lo aS aH aF aL cS cH cF cL M ⟨c, 0, cur, prev, slot, nn, keys, false, ee⟩ aK cK) := HE1.out.below (w2 := w1.drewN nq) ⟨rfl, rfl, rfl, Nat.le_refl _, fun _ _ => rfl⟩
  clear HE1
  refine (HTk.out _ (Foot B aS aH aF aL) (by exact ⟨_, _, _, _, _, _, _, _, HE1b.out.m, fun _ h => h⟩)).mono ?_
  rintro e w2 ⟨rfl, hh2, hf2⟩
  have HE2 : Hid (Lk2 w w2 (Foot B aS aH aF aL) B lo M' ⟨c, 0, cur, prev, slot, nn, keys, false, ee⟩ aK cK) := HE1b.out.after hh2 hf2
  clear HE1b hh2 hf2
  clear q0 q1 q2 q3 q4 qs
  clear f0 f1 f2 f3 f4 f5 f6 f7 f8 f9 f10 f11 f12 f13 ff fs
  obtain ⟨f0, f1, f2, f3, f4, f5, f6, f7, f8, f9, f10, f11, f12, f13, ff, fs⟩ := framef (show w2.heap[w.heap.size]? = some (.cells #[.int .i64 c.kind, .int .i64 c.a, .int .i64 c.b, .int .i64 c.time, .int .i64 c.bk, .int .i64 c.slot, .int .i64 0, .int .i64 cur, .int .i64 prev, .int .i64 slot, .int .i64 nn, .slice aK keys.length cK, .bool false, .int .i64 ee] 51 (0, 0)) from HE2.out.fb)
  go_wp2_with fail
  have HE3 : Hid (Lk2 w _ (Foot B aS aH aF aL) B lo M' ⟨c, 0, cur, prev, la, nn, keys, false, ee⟩ aK cK) := HE2.out.store 9 (.int .i64 la) ⟨c, 0, cur, prev, la, nn, keys, false, ee⟩ rfl
  clear HE2
  refine (adto_any ⟨c, 0, cur, prev, la, nn, keys, false, ee⟩ 1 w.heap.size aK cK _ HE3.out.fb).mono ?_
  rintro e w9 ⟨rfl, hf9, hx9⟩
  have HE9 : Hid (Lk2 w w9 (Foot B aS aH aF aL) B lo M' (toF ⟨c, 0, cur, prev, la, nn, keys, false, ee⟩ 1) aK cK) := HE3.out.toA hf9 hx9
  clear HE3 hf9 hx9
  clear f0 f1 f2 f3 f4 f5 f6 f7 f8 f9 f10 f11 f12 f13 ff fs
  obtain ⟨g0, g1, g2, g3, g4, g5, g6, g7, g8, g9, g10, g11, g12, g13, gf, gs⟩ := framef HE9.out.zb
  go_wp2
  refine bodyPost_ret (v := .agg #[.int .i64 (handF ⟨c, 0, cur, prev, slot, nn, keys, false, ee⟩ la 1).c.kind, .int .i64 (handF ⟨c, 0, cur, prev, slot, nn, keys, false, ee⟩ la 1).c.a, .int .i64 (handF ⟨c, 0, cur, prev, slot, nn, keys, false, ee⟩ la 1).c.b, .int .i64 (handF ⟨c, 0, cur, prev, slot, nn, keys, false, ee⟩ la 1).c.time, .int .i64 (handF ⟨c, 0, cur, prev, slot, nn, keys, false, ee⟩ la 1).c.bk, .int .i64 (handF ⟨c, 0, cur, prev, slot, nn, keys, false, ee⟩ la 1).c.slot, .int .i64 (handF ⟨c, 0, cur, prev, slot, nn, keys, false, ee⟩ la 1).pl, .int .i64 (handF ⟨c, 0, cur, prev, slot, nn, keys, false, ee⟩ la 1).cur, .int .i64 (handF ⟨c, 0, cur, prev, slot, nn, keys, false, ee⟩ la 1).prev, .int .i64 (handF ⟨c, 0, cur, prev, slot, nn, keys, false, ee⟩ la 1).slot, .int .i64 (handF ⟨c, 0, cur, prev, slot, nn, keys, false, ee⟩ la 1).n, .slice aK (handF ⟨c, 0, cur, prev, slot, nn, keys, false, ee⟩ la 1).keys.length cK, .bool (handF ⟨c, 0, cur, prev, slot, nn, keys, false, ee⟩ la 1).done, .int .i64 (handF ⟨c, 0, cur, prev, slot, nn, keys, false, ee⟩ la 1).e]) (by simp [results, Try.results52, go_sem, handF, toF, g0, g1, g2, g3, g4, g5, g6, g7, g8, g9, g10, g11, g12, g13]) rfl ⟨⟨aK, cK, rfl, HR.out.fine HE9.out.end14.2 HZ.out, (fun ad h => .inl h), fun _ => ⟨rfl, rfl⟩⟩, HE9.out.end14⟩

set_option maxHeartbeats 3200000 in
theorem rad1a (t : Int) (M : Mm) (c : Cl) (cur prev slot nn ee : Int) (keys : List (Int × Int)) (B lo : Nat) (aS aH aF aL : Option Addr) (cS cH cF cL : Nat) (aK : Option Addr) (cK : Nat) (w : World) (b : Nat)
    (m : Mine w B lo aS aH aF aL cS cH cF cL M) (HR : Hid (KRow w aK cK keys)) (HZ : Hid (∀ ad, aK = some ad → ¬ Foot B aS aH aF aL ad.block)) (M' : Mm) (HLk : Hid (∀ (W : World) (Z : Nat → Prop), Has W B lo Z M → Calls Try.prog 123 #[.pointer (some ⟨B, 0, none⟩), .int .i64 (b : Int), .int .i64 t] W fun e w' => e = .returned (.bool true) ∧ Has w' B lo (Up W Z) M' ∧ Fine W w' Z))
    (HBk : Hid (∀ W : World, Calls Try.prog 32 #[.agg #[.slice aS M.slots.length cS, .slice aH M.heads.length cH, .slice aF M.free.length cF, .slice aL M.locks.length cL, .int .i64 M.now], .agg #[.int .i64 c.kind, .int .i64 c.a, .int .i64 c.b, .int .i64 c.time, .int .i64 c.bk, .int .i64 c.slot]] W fun e w' => e = .returned (.int .i64 (b : Int)) ∧ Below W.heap.size W w')) :
    Calls Try.prog 52 #[.pointer (some ⟨B, 0, none⟩), .agg #[.int .i64 c.kind, .int .i64 c.a, .int .i64 c.b, .int .i64 c.time, .int .i64 c.bk, .int .i64 c.slot, .int .i64 1, .int .i64 cur, .int .i64 prev, .int .i64 slot, .int .i64 nn, .slice aK keys.length cK, .bool false, .int .i64 ee], .int .i64 t] w fun e w' => Ret w w' e (toF ⟨c, 1, cur, prev, slot, nn, keys, false, ee⟩ 2) aK cK ∧ Has w' B lo (Up w (Foot B aS aH aF aL)) (M') ∧ Fine w w' (Foot B aS aH aF aL) := by
  obtain ⟨of, hof⟩ : ∃ o : Obj, o = .cells #[.int .i64 c.kind, .int .i64 c.a, .int .i64 c.b, .int .i64 c.time, .int .i64 c.bk, .int .i64 c.slot, .int .i64 1, .int .i64 cur, .int .i64 prev, .int .i64 slot, .int .i64 nn, .slice aK keys.length cK, .bool false, .int .i64 ee] 51 := ⟨_, rfl⟩
  obtain ⟨oz, hoz⟩ : ∃ o : Obj, o = zeroFr := ⟨_, rfl⟩
  have HE : Hid (Lk w ((w.alloc of).alloc oz) B lo aS aH aF aL cS cH cF cL M ⟨c, 1, cur, prev, slot, nn, keys, false, ee⟩ aK cK) := Lk.first m ⟨c, 1, cur, prev, slot, nn, keys, false, ee⟩ aK cK hof hoz
  obtain ⟨f0, f1, f2, f3, f4, f5, f6, f7, f8, f9, f10, f11, f12, f13, ff, fs⟩ := framef (show ((w.alloc of).alloc oz).heap[w.heap.size]? = some (.cells #[.int .i64 c.kind, .int .i64 c.a, .int .i64 c.b, .int .i64 c.time, .int .i64 c.bk, .int .i64 c.slot, .int .i64 1, .int .i64 cur, .int .i64 prev, .int .i64 slot, .int .i64 nn, .slice aK keys.length cK, .bool false, .int .i64 ee] 51 (0, 0)) from HE.out.fb)
  obtain ⟨q0, q1, q2, q3, q4, -, -, -, -, -, qs⟩ := boxf HE.out.m.box
  unfold zeroFr at hoz
  clear m
  go_enter Try.func52, Try.ntmps52
  go_wp2_with fail
  rw [← hof, ← hoz]
  generalize (w.alloc of).alloc oz = W0 at *
  subst hof hoz
  have cB : ∀ (d : Nat) (os : Array Obj), Calls Try.prog 32 #[.agg #[.slice aS M.slots.length cS, .slice aH M.heads.length cH, .slice aF M.free.length cF, .slice aL M.locks.length cL, .int .i64 M.now], .agg #[.int .i64 c.kind, .int .i64 c.a, .int .i64 c.b, .int .i64 c.time, .int .i64 c.bk, .int .i64 c.slot]] (grow (redrawn W0 d) os) fun e w'' => e = .returned (.int .i64 (b : Int)) ∧ ∃ p : Regrown, w'' = grow (redrawn W0 p.d) p.os := fun d os => Calls.regrown_of (HBk.out _)
  have Xq0 := cell_regrown q0
  have Xq1 := cell_regrown q1
  have Xq2 := cell_regrown q2
  have Xq3 := cell_regrown q3
  have Xq4 := cell_regrown q4
  have Xf0 := cell_regrown f0
  have Xf1 := cell_regrown f1
  have Xf2 := cell_regrown f2
  have Xf3 := cell_regrown f3
  have Xf4 := cell_regrown f4
  have Xf5 := cell_regrown f5
  clear q0 q1 q2 q3 q4 qs
  clear f0 f1 f2 f3 f4 f5 f6 f7 f8 f9 f10 f11 f12 f13 ff fs
  refine wp_region_quiet_below (by kernel_rfl) (by kernel_rfl) ?_
  repeat (quiet_step (first | exact cB _ _))
  refine wpQuiet_nil ?_
  intro _ hw'
  obtain ⟨⟨dq, osq⟩, hw''⟩ := hw'
  subst hw''
  have HE1 : Hid (Lk w (grow (redrawn W0 dq) osq) B lo aS aH aF aL cS cH cF cL M ⟨c, 1, cur, prev, slot, nn, keys, false, ee⟩ aK cK) := HE.out.below (below_regrown W0 dq osq)
  generalize grow (redrawn W0 dq) osq = w1 at *
  clear Xq0 Xq1 Xq2 Xq3 Xq4 Xf0 Xf1 Xf2 Xf3 Xf4 Xf5 HE
  clear cB HBk
  obtain ⟨f0, f1, f2, f3, f4, f5, f6, f7, f8, f9, f10, f11, f12, f13, ff, fs⟩ := framef (show w1.heap[w.heap.size]? = some (.cells #[.int .i64 c.kind, .int .i64 c.a, .int .i64 c.b, .int .i64 c.time, .int .i64 c.bk, .int .i64 c.slot, .int .i64 1, .int .i64 cur, .int .i64 prev, .int .i64 slot, .int .i64 nn, .slice aK keys.length cK, .bool false, .int .i64 ee] 51 (0, 0)) from HE1.out.fb)
  obtain ⟨q0, q1, q2, q3, q4, -, -, -, -, -, qs⟩ := boxf HE1.out.m.box
  go_wp2_with fail
  refine (HLk.out _ (Foot B aS aH aF aL) (by exact ⟨_, _, _, _, _, _, _, _, HE1.out.m, fun _ h => h⟩)).mono ?_
  rintro e w2 ⟨rfl, hh2, hf2⟩
  have HE2 : Hid (Lk2 w w2 (Foot B aS aH aF aL) B lo M' ⟨c, 1, cur, prev, slot, nn, keys, false, ee⟩ aK cK) := HE1.out.after hh2 hf2
  clear HE1 hh2 hf2
  clear q0 q1 q2 q3 q4 qs
  clear f0 f1 f2 f3 f4 f5 f6 f7 f8 f9 f10 f11 f12 f13 ff fs
  obtain ⟨f0, f1, f2, f3, f4, f5, f6, f7, f8, f9, f10, f11, f12, f13, ff, fs⟩ := framef (show w2.heap[w.heap.size]? = some (.cells #[.int .i64 c.kind, .int .i64 c.a, .int .i64 c.b, .int .i64 c.time, .int .i64 c.bk, .int .i64 c.slot, .int .i64 1, .int .i64 cur, .int .i64 prev, .int .i64 slot, .int .i64 nn, .slice aK keys.length cK, .bool false, .int .i64 ee] 51 (0, 0)) from HE2.out.fb)
  go_wp2_with fail
  refine (adto_any ⟨c, 1, cur, prev, slot, nn, keys, false, ee⟩ 2 w.heap.size aK cK _ HE2.out.fb).mono ?_
  rintro e w9 ⟨rfl, hf9, hx9⟩
  have HE9 : Hid (Lk2 w w9 (Foot B aS aH aF aL) B lo M' (toF ⟨c, 1, cur, prev, slot, nn, keys, false, ee⟩ 2) aK cK) := HE2.out.toA hf9 hx9
  clear HE2 hf9 hx9
  clear f0 f1 f2 f3 f4 f5 f6 f7 f8 f9 f10 f11 f12 f13 ff fs
  obtain ⟨g0, g1, g2, g3, g4, g5, g6, g7, g8, g9, g10, g11, g12, g13, gf, gs⟩ := framef HE9.out.zb
  go_wp2
  refine bodyPost_ret (v := .agg #[.int .i64 (toF ⟨c, 1, cur, prev, slot, nn, keys, false, ee⟩ 2).c.kind, .int .i64 (toF ⟨c, 1, cur, prev, slot, nn, keys, false, ee⟩ 2).c.a, .int .i64 (toF ⟨c, 1, cur, prev, slot, nn, keys, false, ee⟩ 2).c.b, .int .i64 (toF ⟨c, 1, cur, prev, slot, nn, keys, false, ee⟩ 2).c.time, .int .i64 (toF ⟨c, 1, cur, prev, slot, nn, keys, false, ee⟩ 2).c.bk, .int .i64 (toF ⟨c, 1, cur, prev, slot, nn, keys, false, ee⟩ 2).c.slot, .int .i64 (toF ⟨c, 1, cur, prev, slot, nn, keys, false, ee⟩ 2).pl, .int .i64 (toF ⟨c, 1, cur, prev, slot, nn, keys, false, ee⟩ 2).cur, .int .i64 (toF ⟨c, 1, cur, prev, slot, nn, keys, false, ee⟩ 2).prev, .int .i64 (toF ⟨c, 1, cur, prev, slot, nn, keys, false, ee⟩ 2).slot, .int .i64 (toF ⟨c, 1, cur, prev, slot, nn, keys, false, ee⟩ 2).n, .slice aK (toF ⟨c, 1, cur, prev, slot, nn, keys, false, ee⟩ 2).keys.length cK, .bool (toF ⟨c, 1, cur, prev, slot, nn, keys, false, ee⟩ 2).done, .int .i64 (toF ⟨c, 1, cur, prev, slot, nn, keys, false, ee⟩ 2).e]) (by simp [results, Try.results52, go_sem, toF, g0, g1, g2, g3, g4, g5, g6, g7, g8, g9, g10, g11, g12, g13]) rfl ⟨⟨aK, cK, rfl, HR.out.fine HE9.out.end14.2 HZ.out, (fun ad h => .inl h), fun _ => ⟨rfl, rfl⟩⟩, HE9.out.end14⟩

set_option maxHeartbeats 3200000 in
theorem rad1b (t : Int) (M : Mm) (c : Cl) (cur prev slot nn ee : Int) (keys : List (Int × Int)) (B lo : Nat) (aS aH aF aL : Option Addr) (cS cH cF cL : Nat) (aK : Option Addr) (cK : Nat) (w : World) (b : Nat)
    (m : Mine w B lo aS aH aF aL cS cH cF cL M) (HR : Hid (KRow w aK cK keys)) (HZ : Hid (∀ ad, aK = some ad → ¬ Foot B aS aH aF aL ad.block)) (M' : Mm) (HLk : Hid (∀ (W : World) (Z : Nat → Prop), Has W B lo Z M → Calls Try.prog 123 #[.pointer (some ⟨B, 0, none⟩), .int .i64 (b : Int), .int .i64 t] W fun e w' => e = .returned (.bool false) ∧ Has w' B lo (Up W Z) M' ∧ Fine W w' Z))
    (HBk : Hid (∀ W : World, Calls Try.prog 32 #[.agg #[.slice aS M.slots.length cS, .slice aH M.heads.length cH, .slice aF M.free.length cF, .slice aL M.locks.length cL, .int .i64 M.now], .agg #[.int .i64 c.kind, .int .i64 c.a, .int .i64 c.b, .int .i64 c.time, .int .i64 c.bk, .int .i64 c.slot]] W fun e w' => e = .returned (.int .i64 (b : Int)) ∧ Below W.heap.size W w')) :
    Calls Try.prog 52 #[.pointer (some ⟨B, 0, none⟩), .agg #[.int .i64 c.kind, .int .i64 c.a, .int .i64 c.b, .int .i64 c.time, .int .i64 c.bk, .int .i64 c.slot, .int .i64 1, .int .i64 cur, .int .i64 prev, .int .i64 slot, .int .i64 nn, .slice aK keys.length cK, .bool false, .int .i64 ee], .int .i64 t] w fun e w' => Ret w w' e (⟨c, 1, cur, prev, slot, nn, keys, false, ee⟩) aK cK ∧ Has w' B lo (Up w (Foot B aS aH aF aL)) (M') ∧ Fine w w' (Foot B aS aH aF aL) := by
  obtain ⟨of, hof⟩ : ∃ o : Obj, o = .cells #[.int .i64 c.kind, .int .i64 c.a, .int .i64 c.b, .int .i64 c.time, .int .i64 c.bk, .int .i64 c.slot, .int .i64 1, .int .i64 cur, .int .i64 prev, .int .i64 slot, .int .i64 nn, .slice aK keys.length cK, .bool false, .int .i64 ee] 51 := ⟨_, rfl⟩
  obtain ⟨oz, hoz⟩ : ∃ o : Obj, o = zeroFr := ⟨_, rfl⟩
  have HE : Hid (Lk w ((w.alloc of).alloc oz) B lo aS aH aF aL cS cH cF cL M ⟨c, 1, cur, prev, slot, nn, keys, false, ee⟩ aK cK) := Lk.first m ⟨c, 1, cur, prev, slot, nn, keys, false, ee⟩ aK cK hof hoz
  obtain ⟨f0, f1, f2, f3, f4, f5, f6, f7, f8, f9, f10, f11, f12, f13, ff, fs⟩ := framef (show ((w.alloc of).alloc oz).heap[w.heap.size]? = some (.cells #[.int .i64 c.kind, .int .i64 c.a, .int .i64 c.b, .int .i64 c.time, .int .i64 c.bk, .int .i64 c.slot, .int .i64 1, .int .i64 cur, .int .i64 prev, .int .i64 slot, .int .i64 nn, .slice aK keys.length cK, .bool false, .int .i64 ee] 51 (0, 0)) from HE.out.fb)
  obtain ⟨q0, q1, q2, q3, q4, -, -, -, -, -, qs⟩ := boxf HE.out.m.box
  unfold zeroFr at hoz
  clear m
  go_enter Try.func52, Try.ntmps52
  go_wp2_with fail
  rw [← hof, ← hoz]
  generalize (w.alloc of).alloc oz = W0 at *
  subst hof hoz
  have cB : ∀ (d : Nat) (os : Array Obj), Calls Try.prog 32 #[.agg #[.slice aS M.slots.length cS, .slice aH M.heads.length cH, .slice aF M.free.length cF, .slice aL M.locks.length cL, .int .i64 M.now], .agg #[.int .i64 c.kind, .int .i64 c.a, .int .i64 c.b, .int .i64 c.time, .int .i64 c.bk, .int .i64 c.slot]] (grow (redrawn W0 d) os) fun e w'' => e = .returned (.int .i64 (b : Int)) ∧ ∃ p : Regrown, w'' = grow (redrawn W0 p.d) p.os := fun d os => Calls.regrown_of (HBk.out _)
  have Xq0 := cell_regrown q0
  have Xq1 := cell_regrown q1
  have Xq2 := cell_regrown q2
  have Xq3 := cell_regrown q3
  have Xq4 := cell_regrown q4
  have Xf0 := cell_regrown f0
  have Xf1 := cell_regrown f1
  have Xf2 := cell_regrown f2
  have Xf3 := cell_regrown f3
  have Xf4 := cell_regrown f4
  have Xf5 := cell_regrown f5
  clear q0 q1 q2 q3 q4 qs
  clear f0 f1 f2 f3 f4 f5 f6 f7 f8 f9 f10 f11 f12 f13 ff fs
  refine wp_region_quiet_below (by kernel_rfl) (by kernel_rfl) ?_
  repeat (quiet_step (first | exact cB _ _))
  refine wpQuiet_nil ?_
  intro _ hw'
  obtain ⟨⟨dq, osq⟩, hw''⟩ := hw'
  subst hw''
  have HE1 : Hid (Lk w (grow (redrawn W0 dq) osq) B lo aS aH aF aL cS cH cF cL M ⟨c, 1, cur, prev, slot, nn, keys, false, ee⟩ aK cK) := HE.out.below (below_regrown W0 dq osq)
  generalize grow (redrawn W0 dq) osq = w1 at *
  clear Xq0 Xq1 Xq2 Xq3 Xq4 Xf0 Xf1 Xf2 Xf3 Xf4 Xf5 HE
  clear cB HBk
  obtain ⟨f0, f1, f2, f3, f4, f5, f6, f7, f8, f9, f10, f11, f12, f13, ff, fs⟩ := framef (show w1.heap[w.heap.size]? = some (.cells #[.int .i64 c.kind, .int .i64 c.a, .int .i64 c.b, .int .i64 c.time, .int .i64 c.bk, .int .i64 c.slot, .int .i64 1, .int .i64 cur, .int .i64 prev, .int .i64 slot, .int .i64 nn, .slice aK keys.length cK, .bool false, .int .i64 ee] 51 (0, 0)) from HE1.out.fb)
  obtain ⟨q0, q1, q2, q3, q4, -, -, -, -, -, qs⟩ := boxf HE1.out.m.box
  go_wp2_with fail
  refine (HLk.out _ (Foot B aS aH aF aL) (by exact ⟨_, _, _, _, _, _, _, _, HE1.out.m, fun _ h => h⟩)).mono ?_
  rintro e w2 ⟨rfl, hh2, hf2⟩
  have HE2 : Hid (Lk2 w w2 (Foot B aS aH aF aL) B lo M' ⟨c, 1, cur, prev, slot, nn, keys, false, ee⟩ aK cK) := HE1.out.after hh2 hf2
  clear HE1 hh2 hf2
  clear q0 q1 q2 q3 q4 qs
  clear f0 f1 f2 f3 f4 f5 f6 f7 f8 f9 f10 f11 f12 f13 ff fs
  obtain ⟨f0, f1, f2, f3, f4, f5, f6, f7, f8, f9, f10, f11, f12, f13, ff, fs⟩ := framef (show w2.heap[w.heap.size]? = some (.cells #[.int .i64 c.kind, .int .i64 c.a, .int .i64 c.b, .int .i64 c.time, .int .i64 c.bk, .int .i64 c.slot, .int .i64 1, .int .i64 cur, .int .i64 prev, .int .i64 slot, .int .i64 nn, .slice aK keys.length cK, .bool false, .int .i64 ee] 51 (0, 0)) from HE2.out.fb)
  obtain ⟨g0, g1, g2, g3, g4, g5, g6, g7, g8, g9, g10, g11, g12, g13, gf, gs⟩ := framef HE2.out.zb
  go_wp2
  refine bodyPost_ret (v := .agg #[.int .i64 ((⟨c, 1, cur, prev, slot, nn, keys, false, ee⟩ : Fr)).c.kind, .int .i64 ((⟨c, 1, cur, prev, slot, nn, keys, false, ee⟩ : Fr)).c.a, .int .i64 ((⟨c, 1, cur, prev, slot, nn, keys, false, ee⟩ : Fr)).c.b, .int .i64 ((⟨c, 1, cur, prev, slot, nn, keys, false, ee⟩ : Fr)).c.time, .int .i64 ((⟨c, 1, cur, prev, slot, nn, keys, false, ee⟩ : Fr)).c.bk, .int .i64 ((⟨c, 1, cur, prev, slot, nn, keys, false, ee⟩ : Fr)).c.slot, .int .i64 ((⟨c, 1, cur, prev, slot, nn, keys, false, ee⟩ : Fr)).pl, .int .i64 ((⟨c, 1, cur, prev, slot, nn, keys, false, ee⟩ : Fr)).cur, .int .i64 ((⟨c, 1, cur, prev, slot, nn, keys, false, ee⟩ : Fr)).prev, .int .i64 ((⟨c, 1, cur, prev, slot, nn, keys, false, ee⟩ : Fr)).slot, .int .i64 ((⟨c, 1, cur, prev, slot, nn, keys, false, ee⟩ : Fr)).n, .slice aK ((⟨c, 1, cur, prev, slot, nn, keys, false, ee⟩ : Fr)).keys.length cK, .bool ((⟨c, 1, cur, prev, slot, nn, keys, false, ee⟩ : Fr)).done, .int .i64 ((⟨c, 1, cur, prev, slot, nn, keys, false, ee⟩ : Fr)).e]) (by simp [results, Try.results52, go_sem, g0, g1, g2, g3, g4, g5, g6, g7, g8, g9, g10, g11, g12, g13]) rfl ⟨⟨aK, cK, rfl, HR.out.fine HE2.out.end14.2 HZ.out, (fun ad h => .inl h), fun _ => ⟨rfl, rfl⟩⟩, HE2.out.end14⟩


end Go.Proofs.Ytdbilofhcadmoab.mm
