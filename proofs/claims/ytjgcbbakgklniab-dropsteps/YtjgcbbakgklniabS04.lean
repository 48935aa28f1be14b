/- The contract of the document's own DropStep: unlock, put, any other place. -/
import Derived.Test.YtjgcbbakgklniabC13
import Derived.Test.YtjgcbbakgklniabC14
import Derived.BigRegion
import Derived.Deep.QuietTactic
import Derived.BigQuiet
import Derived.Lib.QuietBelow
import Derived.Test.YtjgcbbakgklniabS01
namespace Go.Proofs.Ytjgcbbakgklniab.mm
open Go.ChangeShapes Go.WideShapes Go.ChangeAt Go.RowKit Go.Joins Go.Deep Go.Sort
set_option maxRecDepth 100000
set_option linter.unusedVariables false

set_option maxHeartbeats 3200000 in
theorem rdr5 (t : Int) (M : Mm) (c : Cl) (cur prev slot nn ee : Int) (keys : List (Int × Int)) (B lo : Nat) (aS aH aF aL : Option Addr) (cS cH cF cL : Nat) (aK : Option Addr) (cK : Nat) (w : World) (b : Nat)
    (m : Mine w B lo aS aH aF aL cS cH cF cL M) (HR : Hid (KRow w aK cK keys)) (HZ : Hid (∀ ad, aK = some ad → ¬ Foot B aS aH aF aL ad.block)) (M' : Mm) (HLk : Hid (∀ (W : World) (Z : Nat → Prop), Has W B lo Z M → Calls Try.prog 125 #[.pointer (some ⟨B, 0, none⟩), .int .i64 (b : Int), .int .i64 t] W fun e w' => e = .returned (.tuple #[]) ∧ Has w' B lo (Up W Z) M' ∧ Fine W w' Z))
    (HBk : Hid (∀ W : World, Calls Try.prog 32 #[.agg #[.slice aS M.slots.length cS, .slice aH M.heads.length cH, .slice aF M.free.length cF, .slice aL M.locks.length cL, .int .i64 M.now], .agg #[.int .i64 c.kind, .int .i64 c.a, .int .i64 c.b, .int .i64 c.time, .int .i64 c.bk, .int .i64 c.slot]] W fun e w' => e = .returned (.int .i64 (b : Int)) ∧ Below W.heap.size W w')) :
    Calls Try.prog 63 #[.pointer (some ⟨B, 0, none⟩), .agg #[.int .i64 c.kind, .int .i64 c.a, .int .i64 c.b, .int .i64 c.time, .int .i64 c.bk, .int .i64 c.slot, .int .i64 5, .int .i64 cur, .int .i64 prev, .int .i64 slot, .int .i64 nn, .slice aK keys.length cK, .bool false, .int .i64 ee], .int .i64 t] w fun e w' => Ret w w' e (toF ⟨c, 5, cur, prev, slot, nn, keys, false, ee⟩ 6) aK cK ∧ Has w' B lo (Up w (Foot B aS aH aF aL)) (M') ∧ Fine w w' (Foot B aS aH aF aL) := by
  obtain ⟨of, hof⟩ : ∃ o : Obj, o = .cells #[.int .i64 c.kind, .int .i64 c.a, .int .i64 c.b, .int .i64 c.time, .int .i64 c.bk, .int .i64 c.slot, .int .i64 5, .int .i64 cur, .int .i64 prev, .int .i64 slot, .int .i64 nn, .slice aK keys.length cK, .bool false, .int .i64 ee] 51 := ⟨_, rfl⟩
  obtain ⟨oz, hoz⟩ : ∃ o : Obj, o = zeroFr := ⟨_, rfl⟩
  have HE : Hid (Lk w ((w.alloc of).alloc oz) B lo aS aH aF aL cS cH cF cL M ⟨c, 5, cur, prev, slot, nn, keys, false, ee⟩ aK cK) := Lk.first m ⟨c, 5, cur, prev, slot, nn, keys, false, ee⟩ aK cK hof hoz
  obtain ⟨f0, f1, f2, f3, f4, f5, f6, f7, f8, f9, f10, f11, f12, f13, ff, fs⟩ := framef (show ((w.alloc of).alloc oz).heap[w.heap.size]? = some (.cells #[.int .i64 c.kind, .int .i64 c.a, .int .i64 c.b, .int .i64 c.time, .int .i64 c.bk, .int .i64 c.slot, .int .i64 5, .int .i64 cur, .int .i64 prev, .int .i64 slot, .int .i64 nn, .slice aK keys.length cK, .bool false, .int .i64 ee] 51 (0, 0)) from HE.out.fb)
  obtain ⟨q0, q1, q2, q3, q4, -, -, -, -, -, qs⟩ := boxf HE.out.m.box
  unfold zeroFr at hoz
  clear m
  go_enter Try.func63, Try.ntmps63
  go_wp2_with fail
  rw [← hof, ← hoz]
  generalize (w.alloc of).alloc oz = W0 at *
  subst hof hoz
  have cB : ∀ (d : Nat) (os : Array Obj), Calls Try.prog 32 #[.agg #[.slice aS M.slots.length cS, .slice aH M.heads.length cH, .slice aF M.free.length cF, .slice aL M.locks.length cL, .int .i64 M.now], .agg #[.int .i64 c.kind, .int .i64 c.a, .int .i64 c.b, .int .i64 c.time, .int .i64 c.bk, .int .i64 c.slot]] (grow (redrawn W0 d) os) fun e w'' => e = .returned (.int .i64 (b : Int)) ∧ ∃ p : Regrown, w'' = grow (redrawn W0 p.d) p.os := fun d os => Calls.regrown_of (HBk.out _)
  have Xq0 := cell_regrown q0
  have Xq1 := cell_regrown q1
  have Xq2 := cell_regrown q2
  have Xq3 := cell_regrown q3
  have Xq4 := cell_regrown q4
  have Xf0 := cell_regrown f0
  have Xf1 := cell_regrown f1
  have Xf2 := cell_regrown f2
  have Xf3 := cell_regrown f3
  have Xf4 := cell_regrown f4
  have Xf5 := cell_regrown f5
  clear q0 q1 q2 q3 q4 qs
  clear f0 f1 f2 f3 f4 f5 f6 f7 f8 f9 f10 f11 f12 f13 ff fs
  refine wp_region_quiet_below (by kernel_rfl) (by kernel_rfl) ?_
  repeat (quiet_step (first | exact cB _ _))
  refine wpQuiet_nil ?_
  intro _ hw'
  obtain ⟨⟨dq, osq⟩, hw''⟩ := hw'
  subst hw''
  have HE1 : Hid (Lk w (grow (redrawn W0 dq) osq) B lo aS aH aF aL cS cH cF cL M ⟨c, 5, cur, prev, slot, nn, keys, false, ee⟩ aK cK) := HE.out.below (below_regrown W0 dq osq)
  generalize grow (redrawn W0 dq) osq = w1 at *
  clear Xq0 Xq1 Xq2 Xq3 Xq4 Xf0 Xf1 Xf2 Xf3 Xf4 Xf5 HE
  clear cB HBk
  obtain ⟨f0, f1, f2, f3, f4, f5, f6, f7, f8, f9, f10, f11, f12, f13, ff, fs⟩ := framef (show w1.heap[w.heap.size]? = some (.cells #[.int .i64 c.kind, .int .i64 c.a, .int .i64 c.b, .int .i64 c.time, .int .i64 c.bk, .int .i64 c.slot, .int .i64 5, .int .i64 cur, .int .i64 prev, .int .i64 slot, .int .i64 nn, .slice aK keys.length cK, .bool false, .int .i64 ee] 51 (0, 0)) from HE1.out.fb)
  obtain ⟨q0, q1, q2, q3, q4, -, -, -, -, -, qs⟩ := boxf HE1.out.m.box
  go_wp2_with fail
  refine (HLk.out _ (Foot B aS aH aF aL) (by exact ⟨_, _, _, _, _, _, _, _, HE1.out.m, fun _ h => h⟩)).mono ?_
  rintro e w2 ⟨rfl, hh2, hf2⟩
  have HE2 : Hid (Lk2 w w2 (Foot B aS aH aF aL) B lo M' ⟨c, 5, cur, prev, slot, nn, keys, false, ee⟩ aK cK) := HE1.out.after hh2 hf2
  clear HE1 hh2 hf2
  clear q0 q1 q2 q3 q4 qs
  clear f0 f1 f2 f3 f4 f5 f6 f7 f8 f9 f10 f11 f12 f13 ff fs
  obtain ⟨f0, f1, f2, f3, f4, f5, f6, f7, f8, f9, f10, f11, f12, f13, ff, fs⟩ := framef (show w2.heap[w.heap.size]? = some (.cells #[.int .i64 c.kind, .int .i64 c.a, .int .i64 c.b, .int .i64 c.time, .int .i64 c.bk, .int .i64 c.slot, .int .i64 5, .int .i64 cur, .int .i64 prev, .int .i64 slot, .int .i64 nn, .slice aK keys.length cK, .bool false, .int .i64 ee] 51 (0, 0)) from HE2.out.fb)
  go_wp2_with fail
  refine (drto_any ⟨c, 5, cur, prev, slot, nn, keys, false, ee⟩ 6 w.heap.size aK cK _ HE2.out.fb).mono ?_
  rintro e w9 ⟨rfl, hf9, hx9⟩
  have HE9 : Hid (Lk2 w w9 (Foot B aS aH aF aL) B lo M' (toF ⟨c, 5, cur, prev, slot, nn, keys, false, ee⟩ 6) aK cK) := HE2.out.toA hf9 hx9
  clear HE2 hf9 hx9
  clear f0 f1 f2 f3 f4 f5 f6 f7 f8 f9 f10 f11 f12 f13 ff fs
  obtain ⟨g0, g1, g2, g3, g4, g5, g6, g7, g8, g9, g10, g11, g12, g13, gf, gs⟩ := framef HE9.out.zb
  go_wp2
  refine bodyPost_ret (v := .agg #[.int .i64 (toF ⟨c, 5, cur, prev, slot, nn, keys, false, ee⟩ 6).c.kind, .int .i64 (toF ⟨c, 5, cur, prev, slot, nn, keys, false, ee⟩ 6).c.a, .int .i64 (toF ⟨c, 5, cur, prev, slot, nn, keys, false, ee⟩ 6).c.b, .int .i64 (toF ⟨c, 5, cur, prev, slot, nn, keys, false, ee⟩ 6).c.time, .int .i64 (toF ⟨c, 5, cur, prev, slot, nn, keys, false, ee⟩ 6).c.bk, .int .i64 (toF ⟨c, 5, cur, prev, slot, nn, keys, false, ee⟩ 6).c.slot, .int .i64 (toF ⟨c, 5, cur, prev, slot, nn, keys, false, ee⟩ 6).pl, .int .i64 (toF ⟨c, 5, cur, prev, slot, nn, keys, false, ee⟩ 6).cur, .int .i64 (toF ⟨c, 5, cur, prev, slot, nn, keys, false, ee⟩ 6).prev, .int .i64 (toF ⟨c, 5, cur, prev, slot, nn, keys, false, ee⟩ 6).slot, .int .i64 (toF ⟨c, 5, cur, prev, slot, nn, keys, false, ee⟩ 6).n, .slice aK (toF ⟨c, 5, cur, prev, slot, nn, keys, false, ee⟩ 6).keys.length cK, .bool (toF ⟨c, 5, cur, prev, slot, nn, keys, false, ee⟩ 6).done, .int .i64 (toF ⟨c, 5, cur, prev, slot, nn, keys, false, ee⟩ 6).e]) (by simp [results, Try.results63, go_sem, toF, g0, g1, g2, g3, g4, g5, g6, g7, g8, g9, g10, g11, g12, g13]) rfl ⟨⟨aK, cK, rfl, HR.out.fine HE9.out.end14.2 HZ.out, (fun ad h => .inl h), fun _ => ⟨rfl, rfl⟩⟩, HE9.out.end14⟩

set_option maxHeartbeats 3200000 in
theorem rdr6a (t : Int) (M : Mm) (c : Cl) (cur prev slot nn ee : Int) (keys : List (Int × Int)) (B lo : Nat) (aS aH aF aL : Option Addr) (cS cH cF cL : Nat) (aK : Option Addr) (cK : Nat) (w : World) (b : Nat)
    (m : Mine w B lo aS aH aF aL cS cH cF cL M) (HR : Hid (KRow w aK cK keys)) (HZ : Hid (∀ ad, aK = some ad → ¬ Foot B aS aH aF aL ad.block)) (hs : (slot == -1) = false) (hs2 : (slot != -1) = true) (M' : Mm) (HPt : Hid (∀ (W : World) (Z : Nat → Prop), Has W B lo Z M → Calls Try.prog 102 #[.pointer (some ⟨B, 0, none⟩), .int .i64 slot] W fun e w' => e = .returned (.tuple #[]) ∧ Has w' B lo (Up W Z) M' ∧ Fine W w' Z))
    (HBk : Hid (∀ W : World, Calls Try.prog 32 #[.agg #[.slice aS M.slots.length cS, .slice aH M.heads.length cH, .slice aF M.free.length cF, .slice aL M.locks.length cL, .int .i64 M.now], .agg #[.int .i64 c.kind, .int .i64 c.a, .int .i64 c.b, .int .i64 c.time, .int .i64 c.bk, .int .i64 c.slot]] W fun e w' => e = .returned (.int .i64 (b : Int)) ∧ Below W.heap.size W w')) :
    Calls Try.prog 63 #[.pointer (some ⟨B, 0, none⟩), .agg #[.int .i64 c.kind, .int .i64 c.a, .int .i64 c.b, .int .i64 c.time, .int .i64 c.bk, .int .i64 c.slot, .int .i64 6, .int .i64 cur, .int .i64 prev, .int .i64 slot, .int .i64 nn, .slice aK keys.length cK, .bool false, .int .i64 ee], .int .i64 t] w fun e w' => Ret w w' e (endF { (⟨c, 6, cur, prev, slot, nn, keys, false, ee⟩ : Fr) with slot := -1 } ee) aK cK ∧ Has w' B lo (Up w (Foot B aS aH aF aL)) (M') ∧ Fine w w' (Foot B aS aH aF aL) := by
  obtain ⟨of, hof⟩ : ∃ o : Obj, o = .cells #[.int .i64 c.kind, .int .i64 c.a, .int .i64 c.b, .int .i64 c.time, .int .i64 c.bk, .int .i64 c.slot, .int .i64 6, .int .i64 cur, .int .i64 prev, .int .i64 slot, .int .i64 nn, .slice aK keys.length cK, .bool false, .int .i64 ee] 51 := ⟨_, rfl⟩
  obtain ⟨oz, hoz⟩ : ∃ o : Obj, o = zeroFr := ⟨_, rfl⟩
  have HE : Hid (Lk w ((w.alloc of).alloc oz) B lo aS aH aF aL cS cH cF cL M ⟨c, 6, cur, prev, slot, nn, keys, false, ee⟩ aK cK) := Lk.first m ⟨c, 6, cur, prev, slot, nn, keys, false, ee⟩ aK cK hof hoz
  obtain ⟨f0, f1, f2, f3, f4, f5, f6, f7, f8, f9, f10, f11, f12, f13, ff, fs⟩ := framef (show ((w.alloc of).alloc oz).heap[w.heap.size]? = some (.cells #[.int .i64 c.kind, .int .i64 c.a, .int .i64 c.b, .int .i64 c.time, .int .i64 c.bk, .int .i64 c.slot, .int .i64 6, .int .i64 cur, .int .i64 prev, .int .i64 slot, .int .i64 nn, .slice aK keys.length cK, .bool false, .int .i64 ee] 51 (0, 0)) from HE.out.fb)
  obtain ⟨q0, q1, q2, q3, q4, -, -, -, -, -, qs⟩ := boxf HE.out.m.box
  unfold zeroFr at hoz
  clear m
  go_enter Try.func63, Try.ntmps63
  go_wp2_with fail
  rw [← hof, ← hoz]
  generalize (w.alloc of).alloc oz = W0 at *
  subst hof hoz
  have cB : ∀ (d : Nat) (os : Array Obj), Calls Try.prog 32 #[.agg #[.slice aS M.slots.length cS, .slice aH M.heads.length cH, .slice aF M.free.length cF, .slice aL M.locks.length cL, .int .i64 M.now], .agg #[.int .i64 c.kind, .int .i64 c.a, .int .i64 c.b, .int .i64 c.time, .int .i64 c.bk, .int .i64 c.slot]] (grow (redrawn W0 d) os) fun e w'' => e = .returned (.int .i64 (b : Int)) ∧ ∃ p : Regrown, w'' = grow (redrawn W0 p.d) p.os := fun d os => Calls.regrown_of (HBk.out _)
  have Xq0 := cell_regrown q0
  have Xq1 := cell_regrown q1
  have Xq2 := cell_regrown q2
  have Xq3 := cell_regrown q3
  have Xq4 := cell_regrown q4
  have Xf0 := cell_regrown f0
  have Xf1 := cell_regrown f1
  have Xf2 := cell_regrown f2
  have Xf3 := cell_regrown f3
  have Xf4 := cell_regrown f4
  have Xf5 := cell_regrown f5
  clear q0 q1 q2 q3 q4 qs
  clear f0 f1 f2 f3 f4 f5 f6 f7 f8 f9 f10 f11 f12 f13 ff fs
  refine wp_region_quiet_below (by kernel_rfl) (by kernel_rfl) ?_
  repeat (quiet_step (first | exact cB _ _))
  refine wpQuiet_nil ?_
  intro _ hw'
  obtain ⟨⟨dq, osq⟩, hw''⟩ := hw'
  subst hw''
  have HE1 : Hid (Lk w (grow (redrawn W0 dq) osq) B lo aS aH aF aL cS cH cF cL M ⟨c, 6, cur, prev, slot, nn, keys, false, ee⟩ aK cK) := HE.out.below (below_regrown W0 dq osq)
  generalize grow (redrawn W0 dq) osq = w1 at *
  clear Xq0 Xq1 Xq2 Xq3 Xq4 Xf0 Xf1 Xf2 Xf3 Xf4 Xf5 HE
  clear cB HBk
  obtain ⟨f0, f1, f2, f3, f4, f5, f6, f7, f8, f9, f10, f11, f12, f13, ff, fs⟩ := framef (show w1.heap[w.heap.size]? = some (.cells #[.int .i64 c.kind, .int .i64 c.a, .int .i64 c.b, .int .i64 c.time, .int .i64 c.bk, .int .i64 c.slot, .int .i64 6, .int .i64 cur, .int .i64 prev, .int .i64 slot, .int .i64 nn, .slice aK keys.length cK, .bool false, .int .i64 ee] 51 (0, 0)) from HE1.out.fb)
  obtain ⟨q0, q1, q2, q3, q4, -, -, -, -, -, qs⟩ := boxf HE1.out.m.box
  go_wp2_with fail
  refine (HPt.out _ (Foot B aS aH aF aL) (by exact ⟨_, _, _, _, _, _, _, _, HE1.out.m, fun _ h => h⟩)).mono ?_
  rintro e w2 ⟨rfl, hh2, hf2⟩
  have HE2 : Hid (Lk2 w w2 (Foot B aS aH aF aL) B lo M' ⟨c, 6, cur, prev, slot, nn, keys, false, ee⟩ aK cK) := HE1.out.after hh2 hf2
  clear HE1 hh2 hf2
  clear q0 q1 q2 q3 q4 qs
  clear f0 f1 f2 f3 f4 f5 f6 f7 f8 f9 f10 f11 f12 f13 ff fs
  obtain ⟨f0, f1, f2, f3, f4, f5, f6, f7, f8, f9, f10, f11, f12, f13, ff, fs⟩ := framef (show w2.heap[w.heap.size]? = some (.cells #[.int .i64 c.kind, .int .i64 c.a, .int .i64 c.b, .int .i64 c.time, .int .i64 c.bk, .int .i64 c.slot, .int .i64 6, .int .i64 cur, .int .i64 prev, .int .i64 slot, .int .i64 nn, .slice aK keys.length cK, .bool false, .int .i64 ee] 51 (0, 0)) from HE2.out.fb)
  go_wp2_with fail
  have HE3 : Hid (Lk2 w _ (Foot B aS aH aF aL) B lo M' ⟨c, 6, cur, prev, -1, nn, keys, false, ee⟩ aK cK) := HE2.out.store 9 (.int .i64 (-1)) ⟨c, 6, cur, prev, -1, nn, keys, false, ee⟩ rfl
  clear HE2
  refine (over_anyA ⟨c, 6, cur, prev, -1, nn, keys, false, ee⟩ ee aK cK _).mono ?_
  rintro e w9 ⟨rfl, hb9⟩
  have HE9 : Hid (Lk2 w w9 (Foot B aS aH aF aL) B lo M' ⟨c, 6, cur, prev, -1, nn, keys, false, ee⟩ aK cK) := HE3.out.below hb9
  clear HE3 hb9
  clear f0 f1 f2 f3 f4 f5 f6 f7 f8 f9 f10 f11 f12 f13 ff fs
  obtain ⟨g0, g1, g2, g3, g4, g5, g6, g7, g8, g9, g10, g11, g12, g13, gf, gs⟩ := framef HE9.out.zb
  go_wp2
  refine bodyPost_ret (v := .agg #[.int .i64 (endF { (⟨c, 6, cur, prev, slot, nn, keys, false, ee⟩ : Fr) with slot := -1 } ee).c.kind, .int .i64 (endF { (⟨c, 6, cur, prev, slot, nn, keys, false, ee⟩ : Fr) with slot := -1 } ee).c.a, .int .i64 (endF { (⟨c, 6, cur, prev, slot, nn, keys, false, ee⟩ : Fr) with slot := -1 } ee).c.b, .int .i64 (endF { (⟨c, 6, cur, prev, slot, nn, keys, false, ee⟩ : Fr) with slot := -1 } ee).c.time, .int .i64 (endF { (⟨c, 6, cur, prev, slot, nn, keys, false, ee⟩ : Fr) with slot := -1 } ee).c.bk, .int .i64 (endF { (⟨c, 6, cur, prev, slot, nn, keys, false, ee⟩ : Fr) with slot := -1 } ee).c.slot, .int .i64 (endF { (⟨c, 6, cur, prev, slot, nn, keys, false, ee⟩ : Fr) with slot := -1 } ee).pl, .int .i64 (endF { (⟨c, 6, cur, prev, slot, nn, keys, false, ee⟩ : Fr) with slot := -1 } ee).cur, .int .i64 (endF { (⟨c, 6, cur, prev, slot, nn, keys, false, ee⟩ : Fr) with slot := -1 } ee).prev, .int .i64 (endF { (⟨c, 6, cur, prev, slot, nn, keys, false, ee⟩ : Fr) with slot := -1 } ee).slot, .int .i64 (endF { (⟨c, 6, cur, prev, slot, nn, keys, false, ee⟩ : Fr) with slot := -1 } ee).n, .slice aK (endF { (⟨c, 6, cur, prev, slot, nn, keys, false, ee⟩ : Fr) with slot := -1 } ee).keys.length cK, .bool (endF { (⟨c, 6, cur, prev, slot, nn, keys, false, ee⟩ : Fr) with slot := -1 } ee).done, .int .i64 (endF { (⟨c, 6, cur, prev, slot, nn, keys, false, ee⟩ : Fr) with slot := -1 } ee).e]) (by simp [results, Try.results63, go_sem, endF, g0, g1, g2, g3, g4, g5, g6, g7, g8, g9, g10, g11, g12, g13]) rfl ⟨⟨aK, cK, rfl, HR.out.fine HE9.out.end14.2 HZ.out, (fun ad h => .inl h), fun _ => ⟨rfl, rfl⟩⟩, HE9.out.end14⟩

set_option maxHeartbeats 3200000 in
theorem rdr6b (t : Int) (M : Mm) (c : Cl) (cur prev nn ee : Int) (keys : List (Int × Int)) (B lo : Nat) (aS aH aF aL : Option Addr) (cS cH cF cL : Nat) (aK : Option Addr) (cK : Nat) (w : World) (b : Nat)
    (m : Mine w B lo aS aH aF aL cS cH cF cL M) (HR : Hid (KRow w aK cK keys)) (HZ : Hid (∀ ad, aK = some ad → ¬ Foot B aS aH aF aL ad.block)) 
    (HBk : Hid (∀ W : World, Calls Try.prog 32 #[.agg #[.slice aS M.slots.length cS, .slice aH M.heads.length cH, .slice aF M.free.length cF, .slice aL M.locks.length cL, .int .i64 M.now], .agg #[.int .i64 c.kind, .int .i64 c.a, .int .i64 c.b, .int .i64 c.time, .int .i64 c.bk, .int .i64 c.slot]] W fun e w' => e = .returned (.int .i64 (b : Int)) ∧ Below W.heap.size W w')) :
    Calls Try.prog 63 #[.pointer (some ⟨B, 0, none⟩), .agg #[.int .i64 c.kind, .int .i64 c.a, .int .i64 c.b, .int .i64 c.time, .int .i64 c.bk, .int .i64 c.slot, .int .i64 6, .int .i64 cur, .int .i64 prev, .int .i64 (-1), .int .i64 nn, .slice aK keys.length cK, .bool false, .int .i64 ee], .int .i64 t] w fun e w' => Ret w w' e (endF ⟨c, 6, cur, prev, -1, nn, keys, false, ee⟩ ee) aK cK ∧ Has w' B lo (Up w (Foot B aS aH aF aL)) (M) ∧ Fine w w' (Foot B aS aH aF aL) := by
  obtain ⟨of, hof⟩ : ∃ o : Obj, o = .cells #[.int .i64 c.kind, .int .i64 c.a, .int .i64 c.b, .int .i64 c.time, .int .i64 c.bk, .int .i64 c.slot, .int .i64 6, .int .i64 cur, .int .i64 prev, .int .i64 (-1), .int .i64 nn, .slice aK keys.length cK, .bool false, .int .i64 ee] 51 := ⟨_, rfl⟩
  obtain ⟨oz, hoz⟩ : ∃ o : Obj, o = zeroFr := ⟨_, rfl⟩
  have HE : Hid (Lk w ((w.alloc of).alloc oz) B lo aS aH aF aL cS cH cF cL M ⟨c, 6, cur, prev, (-1), nn, keys, false, ee⟩ aK cK) := Lk.first m ⟨c, 6, cur, prev, (-1), nn, keys, false, ee⟩ aK cK hof hoz
  obtain ⟨f0, f1, f2, f3, f4, f5, f6, f7, f8, f9, f10, f11, f12, f13, ff, fs⟩ := framef (show ((w.alloc of).alloc oz).heap[w.heap.size]? = some (.cells #[.int .i64 c.kind, .int .i64 c.a, .int .i64 c.b, .int .i64 c.time, .int .i64 c.bk, .int .i64 c.slot, .int .i64 6, .int .i64 cur, .int .i64 prev, .int .i64 (-1), .int .i64 nn, .slice aK keys.length cK, .bool false, .int .i64 ee] 51 (0, 0)) from HE.out.fb)
  obtain ⟨q0, q1, q2, q3, q4, -, -, -, -, -, qs⟩ := boxf HE.out.m.box
  unfold zeroFr at hoz
  clear m
  go_enter Try.func63, Try.ntmps63
  go_wp2_with fail
  rw [← hof, ← hoz]
  generalize (w.alloc of).alloc oz = W0 at *
  subst hof hoz
  have cB : ∀ (d : Nat) (os : Array Obj), Calls Try.prog 32 #[.agg #[.slice aS M.slots.length cS, .slice aH M.heads.length cH, .slice aF M.free.length cF, .slice aL M.locks.length cL, .int .i64 M.now], .agg #[.int .i64 c.kind, .int .i64 c.a, .int .i64 c.b, .int .i64 c.time, .int .i64 c.bk, .int .i64 c.slot]] (grow (redrawn W0 d) os) fun e w'' => e = .returned (.int .i64 (b : Int)) ∧ ∃ p : Regrown, w'' = grow (redrawn W0 p.d) p.os := fun d os => Calls.regrown_of (HBk.out _)
  have Xq0 := cell_regrown q0
  have Xq1 := cell_regrown q1
  have Xq2 := cell_regrown q2
  have Xq3 := cell_regrown q3
  have Xq4 := cell_regrown q4
  have Xf0 := cell_regrown f0
  have Xf1 := cell_regrown f1
  have Xf2 := cell_regrown f2
  have Xf3 := cell_regrown f3
  have Xf4 := cell_regrown f4
  have Xf5 := cell_regrown f5
  clear q0 q1 q2 q3 q4 qs
  clear f0 f1 f2 f3 f4 f5 f6 f7 f8 f9 f10 f11 f12 f13 ff fs
  refine wp_region_quiet_below (by kernel_rfl) (by kernel_rfl) ?_
  repeat (quiet_step (first | exact cB _ _))
  refine wpQuiet_nil ?_
  intro _ hw'
  obtain ⟨⟨dq, osq⟩, hw''⟩ := hw'
  subst hw''
  have HE1 : Hid (Lk w (grow (redrawn W0 dq) osq) B lo aS aH aF aL cS cH cF cL M ⟨c, 6, cur, prev, (-1), nn, keys, false, ee⟩ aK cK) := HE.out.below (below_regrown W0 dq osq)
  generalize grow (redrawn W0 dq) osq = w1 at *
  clear Xq0 Xq1 Xq2 Xq3 Xq4 Xf0 Xf1 Xf2 Xf3 Xf4 Xf5 HE
  clear cB HBk
  obtain ⟨f0, f1, f2, f3, f4, f5, f6, f7, f8, f9, f10, f11, f12, f13, ff, fs⟩ := framef (show w1.heap[w.heap.size]? = some (.cells #[.int .i64 c.kind, .int .i64 c.a, .int .i64 c.b, .int .i64 c.time, .int .i64 c.bk, .int .i64 c.slot, .int .i64 6, .int .i64 cur, .int .i64 prev, .int .i64 (-1), .int .i64 nn, .slice aK keys.length cK, .bool false, .int .i64 ee] 51 (0, 0)) from HE1.out.fb)
  obtain ⟨q0, q1, q2, q3, q4, -, -, -, -, -, qs⟩ := boxf HE1.out.m.box
  go_wp2_with fail
  have HE2 : Hid (Lk2 w _ (Foot B aS aH aF aL) B lo M ⟨c, 6, cur, prev, -1, nn, keys, false, ee⟩ aK cK) := HE1.out.two.store 9 (.int .i64 (-1)) ⟨c, 6, cur, prev, -1, nn, keys, false, ee⟩ rfl
  clear HE1
  refine (over_anyA ⟨c, 6, cur, prev, -1, nn, keys, false, ee⟩ ee aK cK _).mono ?_
  rintro e w9 ⟨rfl, hb9⟩
  have HE9 : Hid (Lk2 w w9 (Foot B aS aH aF aL) B lo M ⟨c, 6, cur, prev, -1, nn, keys, false, ee⟩ aK cK) := HE2.out.below hb9
  clear HE2 hb9
  clear q0 q1 q2 q3 q4 qs
  clear f0 f1 f2 f3 f4 f5 f6 f7 f8 f9 f10 f11 f12 f13 ff fs
  obtain ⟨g0, g1, g2, g3, g4, g5, g6, g7, g8, g9, g10, g11, g12, g13, gf, gs⟩ := framef HE9.out.zb
  go_wp2
  refine bodyPost_ret (v := .agg #[.int .i64 (endF ⟨c, 6, cur, prev, -1, nn, keys, false, ee⟩ ee).c.kind, .int .i64 (endF ⟨c, 6, cur, prev, -1, nn, keys, false, ee⟩ ee).c.a, .int .i64 (endF ⟨c, 6, cur, prev, -1, nn, keys, false, ee⟩ ee).c.b, .int .i64 (endF ⟨c, 6, cur, prev, -1, nn, keys, false, ee⟩ ee).c.time, .int .i64 (endF ⟨c, 6, cur, prev, -1, nn, keys, false, ee⟩ ee).c.bk, .int .i64 (endF ⟨c, 6, cur, prev, -1, nn, keys, false, ee⟩ ee).c.slot, .int .i64 (endF ⟨c, 6, cur, prev, -1, nn, keys, false, ee⟩ ee).pl, .int .i64 (endF ⟨c, 6, cur, prev, -1, nn, keys, false, ee⟩ ee).cur, .int .i64 (endF ⟨c, 6, cur, prev, -1, nn, keys, false, ee⟩ ee).prev, .int .i64 (endF ⟨c, 6, cur, prev, -1, nn, keys, false, ee⟩ ee).slot, .int .i64 (endF ⟨c, 6, cur, prev, -1, nn, keys, false, ee⟩ ee).n, .slice aK (endF ⟨c, 6, cur, prev, -1, nn, keys, false, ee⟩ ee).keys.length cK, .bool (endF ⟨c, 6, cur, prev, -1, nn, keys, false, ee⟩ ee).done, .int .i64 (endF ⟨c, 6, cur, prev, -1, nn, keys, false, ee⟩ ee).e]) (by simp [results, Try.results63, go_sem, endF, g0, g1, g2, g3, g4, g5, g6, g7, g8, g9, g10, g11, g12, g13]) rfl ⟨⟨aK, cK, rfl, HR.out.fine HE9.out.end14.2 HZ.out, (fun ad h => .inl h), fun _ => ⟨rfl, rfl⟩⟩, HE9.out.end14⟩

set_option maxHeartbeats 3200000 in
theorem rdr7 (t : Int) (M : Mm) (c : Cl) (cur prev slot nn ee : Int) (keys : List (Int × Int)) (B lo : Nat) (aS aH aF aL : Option Addr) (cS cH cF cL : Nat) (aK : Option Addr) (cK : Nat) (w : World) (b : Nat)
    (m : Mine w B lo aS aH aF aL cS cH cF cL M) (HR : Hid (KRow w aK cK keys)) (HZ : Hid (∀ ad, aK = some ad → ¬ Foot B aS aH aF aL ad.block)) (pl : Int) (h7 : 7 ≤ pl)
    (HBk : Hid (∀ W : World, Calls Try.prog 32 #[.agg #[.slice aS M.slots.length cS, .slice aH M.heads.length cH, .slice aF M.free.length cF, .slice aL M.locks.length cL, .int .i64 M.now], .agg #[.int .i64 c.kind, .int .i64 c.a, .int .i64 c.b, .int .i64 c.time, .int .i64 c.bk, .int .i64 c.slot]] W fun e w' => e = .returned (.int .i64 (b : Int)) ∧ Below W.heap.size W w')) :
    Calls Try.prog 63 #[.pointer (some ⟨B, 0, none⟩), .agg #[.int .i64 c.kind, .int .i64 c.a, .int .i64 c.b, .int .i64 c.time, .int .i64 c.bk, .int .i64 c.slot, .int .i64 pl, .int .i64 cur, .int .i64 prev, .int .i64 slot, .int .i64 nn, .slice aK keys.length cK, .bool false, .int .i64 ee], .int .i64 t] w fun e w' => Ret w w' e (errF ⟨c, pl, cur, prev, slot, nn, keys, false, ee⟩ 8 5) aK cK ∧ Has w' B lo (Up w (Foot B aS aH aF aL)) (M) ∧ Fine w w' (Foot B aS aH aF aL) := by
  have p0 : (pl == 0) = false := by rw [beq_eq_false_iff_ne]; omega
  have p1 : (pl == 1) = false := by rw [beq_eq_false_iff_ne]; omega
  have p2 : (pl == 2) = false := by rw [beq_eq_false_iff_ne]; omega
  have p3 : (pl == 3) = false := by rw [beq_eq_false_iff_ne]; omega
  have p4 : (pl == 4) = false := by rw [beq_eq_false_iff_ne]; omega
  have p5 : (pl == 5) = false := by rw [beq_eq_false_iff_ne]; omega
  have p6 : (pl == 6) = false := by rw [beq_eq_false_iff_ne]; omega
  obtain ⟨of, hof⟩ : ∃ o : Obj, o = .cells #[.int .i64 c.kind, .int .i64 c.a, .int .i64 c.b, .int .i64 c.time, .int .i64 c.bk, .int .i64 c.slot, .int .i64 pl, .int .i64 cur, .int .i64 prev, .int .i64 slot, .int .i64 nn, .slice aK keys.length cK, .bool false, .int .i64 ee] 51 := ⟨_, rfl⟩
  obtain ⟨oz, hoz⟩ : ∃ o : Obj, o = zeroFr := ⟨_, rfl⟩
  have HE : Hid (Lk w ((w.alloc of).alloc oz) B lo aS aH aF aL cS cH cF cL M ⟨c, pl, cur, prev, slot, nn, keys, false, ee⟩ aK cK) := Lk.first m ⟨c, pl, cur, prev, slot, nn, keys, false, ee⟩ aK cK hof hoz
  obtain ⟨f0, f1, f2, f3, f4, f5, f6, f7, f8, f9, f10, f11, f12, f13, ff, fs⟩ := framef (show ((w.alloc of).alloc oz).heap[w.heap.size]? = some (.cells #[.int .i64 c.kind, .int .i64 c.a, .int .i64 c.b, .int .i64 c.time, .int .i64 c.bk, .int .i64 c.slot, .int .i64 pl, .int .i64 cur, .int .i64 prev, .int .i64 slot, .int .i64 nn, .slice aK keys.length cK, .bool false, .int .i64 ee] 51 (0, 0)) from HE.out.fb)
  obtain ⟨q0, q1, q2, q3, q4, -, -, -, -, -, qs⟩ := boxf HE.out.m.box
  unfold zeroFr at hoz
  clear m
  go_enter Try.func63, Try.ntmps63
  go_wp2_with fail
  rw [← hof, ← hoz]
  generalize (w.alloc of).alloc oz = W0 at *
  subst hof hoz
  have cB : ∀ (d : Nat) (os : Array Obj), Calls Try.prog 32 #[.agg #[.slice aS M.slots.length cS, .slice aH M.heads.length cH, .slice aF M.free.length cF, .slice aL M.locks.length cL, .int .i64 M.now], .agg #[.int .i64 c.kind, .int .i64 c.a, .int .i64 c.b, .int .i64 c.time, .int .i64 c.bk, .int .i64 c.slot]] (grow (redrawn W0 d) os) fun e w'' => e = .returned (.int .i64 (b : Int)) ∧ ∃ p : Regrown, w'' = grow (redrawn W0 p.d) p.os := fun d os => Calls.regrown_of (HBk.out _)
  have Xq0 := cell_regrown q0
  have Xq1 := cell_regrown q1
  have Xq2 := cell_regrown q2
  have Xq3 := cell_regrown q3
  have Xq4 := cell_regrown q4
  have Xf0 := cell_regrown f0
  have Xf1 := cell_regrown f1
  have Xf2 := cell_regrown f2
  have Xf3 := cell_regrown f3
  have Xf4 := cell_regrown f4
  have Xf5 := cell_regrown f5
  clear q0 q1 q2 q3 q4 qs
  clear f0 f1 f2 f3 f4 f5 f6 f7 f8 f9 f10 f11 f12 f13 ff fs
  refine wp_region_quiet_below (by kernel_rfl) (by kernel_rfl) ?_
  repeat (quiet_step (first | exact cB _ _))
  refine wpQuiet_nil ?_
  intro _ hw'
  obtain ⟨⟨dq, osq⟩, hw''⟩ := hw'
  subst hw''
  have HE1 : Hid (Lk w (grow (redrawn W0 dq) osq) B lo aS aH aF aL cS cH cF cL M ⟨c, pl, cur, prev, slot, nn, keys, false, ee⟩ aK cK) := HE.out.below (below_regrown W0 dq osq)
  generalize grow (redrawn W0 dq) osq = w1 at *
  clear Xq0 Xq1 Xq2 Xq3 Xq4 Xf0 Xf1 Xf2 Xf3 Xf4 Xf5 HE
  clear cB HBk
  obtain ⟨f0, f1, f2, f3, f4, f5, f6, f7, f8, f9, f10, f11, f12, f13, ff, fs⟩ := framef (show w1.heap[w.heap.size]? = some (.cells #[.int .i64 c.kind, .int .i64 c.a, .int .i64 c.b, .int .i64 c.time, .int .i64 c.bk, .int .i64 c.slot, .int .i64 pl, .int .i64 cur, .int .i64 prev, .int .i64 slot, .int .i64 nn, .slice aK keys.length cK, .bool false, .int .i64 ee] 51 (0, 0)) from HE1.out.fb)
  obtain ⟨q0, q1, q2, q3, q4, -, -, -, -, -, qs⟩ := boxf HE1.out.m.box
  go_wp2_with fail
  have HE2 : Hid (Lk2 w _ (Foot B aS aH aF aL) B lo M ⟨c, pl, cur, prev, slot, nn, keys, false, 8⟩ aK cK) := HE1.out.two.store 13 (.int .i64 8) ⟨c, pl, cur, prev, slot, nn, keys, false, 8⟩ rfl
  clear HE1
  refine (drto_any ⟨c, pl, cur, prev, slot, nn, keys, false, 8⟩ 5 w.heap.size aK cK _ HE2.out.fb).mono ?_
  rintro e w9 ⟨rfl, hf9, hx9⟩
  have HE9 : Hid (Lk2 w w9 (Foot B aS aH aF aL) B lo M (toF ⟨c, pl, cur, prev, slot, nn, keys, false, 8⟩ 5) aK cK) := HE2.out.toA hf9 hx9
  clear HE2 hf9 hx9
  clear q0 q1 q2 q3 q4 qs
  clear f0 f1 f2 f3 f4 f5 f6 f7 f8 f9 f10 f11 f12 f13 ff fs
  obtain ⟨g0, g1, g2, g3, g4, g5, g6, g7, g8, g9, g10, g11, g12, g13, gf, gs⟩ := framef HE9.out.zb
  go_wp2
  refine bodyPost_ret (v := .agg #[.int .i64 (errF ⟨c, pl, cur, prev, slot, nn, keys, false, ee⟩ 8 5).c.kind, .int .i64 (errF ⟨c, pl, cur, prev, slot, nn, keys, false, ee⟩ 8 5).c.a, .int .i64 (errF ⟨c, pl, cur, prev, slot, nn, keys, false, ee⟩ 8 5).c.b, .int .i64 (errF ⟨c, pl, cur, prev, slot, nn, keys, false, ee⟩ 8 5).c.time, .int .i64 (errF ⟨c, pl, cur, prev, slot, nn, keys, false, ee⟩ 8 5).c.bk, .int .i64 (errF ⟨c, pl, cur, prev, slot, nn, keys, false, ee⟩ 8 5).c.slot, .int .i64 (errF ⟨c, pl, cur, prev, slot, nn, keys, false, ee⟩ 8 5).pl, .int .i64 (errF ⟨c, pl, cur, prev, slot, nn, keys, false, ee⟩ 8 5).cur, .int .i64 (errF ⟨c, pl, cur, prev, slot, nn, keys, false, ee⟩ 8 5).prev, .int .i64 (errF ⟨c, pl, cur, prev, slot, nn, keys, false, ee⟩ 8 5).slot, .int .i64 (errF ⟨c, pl, cur, prev, slot, nn, keys, false, ee⟩ 8 5).n, .slice aK (errF ⟨c, pl, cur, prev, slot, nn, keys, false, ee⟩ 8 5).keys.length cK, .bool (errF ⟨c, pl, cur, prev, slot, nn, keys, false, ee⟩ 8 5).done, .int .i64 (errF ⟨c, pl, cur, prev, slot, nn, keys, false, ee⟩ 8 5).e]) (by simp [results, Try.results63, go_sem, errF, toF, g0, g1, g2, g3, g4, g5, g6, g7, g8, g9, g10, g11, g12, g13]) rfl ⟨⟨aK, cK, rfl, HR.out.fine HE9.out.end14.2 HZ.out, (fun ad h => .inl h), fun _ => ⟨rfl, rfl⟩⟩, HE9.out.end14⟩

end Go.Proofs.Ytjgcbbakgklniab.mm

/- What the contracts of the document's own steps share. -/
namespace Go.Proofs.Ytjgcbbakgklniab.mm
open Go.ChangeShapes Go.WideShapes Go.ChangeAt Go.RowKit Go.Joins
set_option maxRecDepth 100000
set_option linter.unusedVariables false

theorem Has.kept {w w' : World} {B lo : Nat} {Z : Nat → Prop} {M : Mm} (h : Has w B lo Z M) (hb : Below w.heap.size w w') : Has w' B lo (Up w Z) M ∧ Fine w w' Z :=
  ⟨(h.below hb).mono (fun _ _ hk => .inl hk), .of_below _ hb⟩

theorem isAt_j {M : Mm} {j : Nat} {c : Cl} {pl prev slot nn ee : Int} {keys : List (Int × Int)} {done : Bool} (hj : j < M.slots.length) : isAt M ⟨c, pl, (j : Int) + 1, prev, slot, nn, keys, done, ee⟩ = true :=
  isAt_iff.2 (by show 1 ≤ (j : Int) + 1 ∧ (j : Int) + 1 ≤ M.slots.length; omega)
theorem isAt_no {M : Mm} {cur : Int} {c : Cl} {pl prev slot nn ee : Int} {keys : List (Int × Int)} {done : Bool} (h : cur ≤ 0) : isAt M ⟨c, pl, cur, prev, slot, nn, keys, done, ee⟩ = false := by
  cases hx : isAt M ⟨c, pl, cur, prev, slot, nn, keys, done, ee⟩
  · rfl
  · have : 1 ≤ cur ∧ _ := isAt_iff.1 hx
    omega
theorem isSl_no {M : Mm} {s : Int} (h : s < 0) : isSl M s = false := by
  cases hx : isSl M s
  · rfl
  · have := (isSl_in.1 hx).1
    omega

end Go.Proofs.Ytjgcbbakgklniab.mm
