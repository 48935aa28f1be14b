/- The contract of the document's own LookStep, for memory of one's own: its parts. -/
import Derived.Test.YtdbilofhcadmoabD02
import Derived.Deep.QuietTactic
import Derived.BigQuiet
import Derived.Lib.QuietBelow
namespace Go.Proofs.Ytdbilofhcadmoab.mm
open Go.ChangeShapes Go.WideShapes Go.ChangeAt Go.RowKit Go.Joins Go.Deep Go.Sort
set_option maxRecDepth 100000
set_option linter.unusedVariables false

theorem over_any (f : Fr) (n : Int) (aK : Option Addr) (cK : Nat) (w : World) :
    Calls Try.prog 100 #[.agg #[.int .i64 f.c.kind, .int .i64 f.c.a, .int .i64 f.c.b, .int .i64 f.c.time, .int .i64 f.c.bk, .int .i64 f.c.slot, .int .i64 f.pl, .int .i64 f.cur, .int .i64 f.prev, .int .i64 f.slot, .int .i64 f.n, .slice aK f.keys.length cK, .bool f.done, .int .i64 f.e], .int .i64 n] w fun e w' => e = .returned (.agg #[.int .i64 (endF f n).c.kind, .int .i64 (endF f n).c.a, .int .i64 (endF f n).c.b, .int .i64 (endF f n).c.time, .int .i64 (endF f n).c.bk, .int .i64 (endF f n).c.slot, .int .i64 (endF f n).pl, .int .i64 (endF f n).cur, .int .i64 (endF f n).prev, .int .i64 (endF f n).slot, .int .i64 (endF f n).n, .slice aK (endF f n).keys.length cK, .bool (endF f n).done, .int .i64 (endF f n).e]) ∧ Below w.heap.size w w' := by
  go_enter Try.func100, Try.ntmps100
  go_wp2
  refine bodyPost_ret (v := .agg #[.int .i64 (endF f n).c.kind, .int .i64 (endF f n).c.a, .int .i64 (endF f n).c.b, .int .i64 (endF f n).c.time, .int .i64 (endF f n).c.bk, .int .i64 (endF f n).c.slot, .int .i64 (endF f n).pl, .int .i64 (endF f n).cur, .int .i64 (endF f n).prev, .int .i64 (endF f n).slot, .int .i64 (endF f n).n, .slice aK (endF f n).keys.length cK, .bool (endF f n).done, .int .i64 (endF f n).e]) (by simp [results, Try.results100, go_sem, endF]) rfl ⟨rfl, ?_⟩
  repeat (first | exact Below.refl _ _ | refine Below.alloc ?_ (by simp <;> omega) _ | refine Below.setCell ?_ (by simp <;> omega) _)

theorem isSlotR_any (n : Int) (w : World) : Calls Try.prog 99 #[.int .i64 n] w fun e w' => e = .returned (.bool (decide (0 < n))) ∧ Below w.heap.size w w' := by
  go_enter Try.func99, Try.ntmps99
  go_wp2
  go_ret
  exact ⟨rfl, Below.refl _ _⟩

set_option maxHeartbeats 1600000 in
theorem rto_any (f : Fr) (n : Int) (X : Nat) (aK : Option Addr) (cK : Nat) (w : World) (hX : w.heap[X]? = some (.cells #[.int .i64 f.c.kind, .int .i64 f.c.a, .int .i64 f.c.b, .int .i64 f.c.time, .int .i64 f.c.bk, .int .i64 f.c.slot, .int .i64 f.pl, .int .i64 f.cur, .int .i64 f.prev, .int .i64 f.slot, .int .i64 f.n, .slice aK f.keys.length cK, .bool f.done, .int .i64 f.e] 51 (0, 0))) :
    Calls Try.prog 98 #[.int .i64 n, .pointer (some ⟨X, 0, none⟩)] w fun e w' => e = .returned (.agg #[.int .i64 (toF f n).c.kind, .int .i64 (toF f n).c.a, .int .i64 (toF f n).c.b, .int .i64 (toF f n).c.time, .int .i64 (toF f n).c.bk, .int .i64 (toF f n).c.slot, .int .i64 (toF f n).pl, .int .i64 (toF f n).cur, .int .i64 (toF f n).prev, .int .i64 (toF f n).slot, .int .i64 (toF f n).n, .slice aK (toF f n).keys.length cK, .bool (toF f n).done, .int .i64 (toF f n).e]) ∧ Fine w w' (fun k => k = X) ∧ w'.heap[X]? = some (.cells #[.int .i64 (toF f n).c.kind, .int .i64 (toF f n).c.a, .int .i64 (toF f n).c.b, .int .i64 (toF f n).c.time, .int .i64 (toF f n).c.bk, .int .i64 (toF f n).c.slot, .int .i64 (toF f n).pl, .int .i64 (toF f n).cur, .int .i64 (toF f n).prev, .int .i64 (toF f n).slot, .int .i64 (toF f n).n, .slice aK (toF f n).keys.length cK, .bool (toF f n).done, .int .i64 (toF f n).e] 51 (0, 0)) := by
  obtain ⟨f0, f1, f2, f3, f4, f5, f6, f7, f8, f9, f10, f11, f12, f13, ff, fs⟩ := framef hX
  have HX : Hid (w.heap[X]? = some (.cells #[.int .i64 f.c.kind, .int .i64 f.c.a, .int .i64 f.c.b, .int .i64 f.c.time, .int .i64 f.c.bk, .int .i64 f.c.slot, .int .i64 f.pl, .int .i64 f.cur, .int .i64 f.prev, .int .i64 f.slot, .int .i64 f.n, .slice aK f.keys.length cK, .bool f.done, .int .i64 f.e] 51 (0, 0))) := hX
  clear hX
  go_enter Try.func98, Try.ntmps98
  go_wp2
  refine bodyPost_ret (v := .agg #[.int .i64 (toF f n).c.kind, .int .i64 (toF f n).c.a, .int .i64 (toF f n).c.b, .int .i64 (toF f n).c.time, .int .i64 (toF f n).c.bk, .int .i64 (toF f n).c.slot, .int .i64 (toF f n).pl, .int .i64 (toF f n).cur, .int .i64 (toF f n).prev, .int .i64 (toF f n).slot, .int .i64 (toF f n).n, .slice aK (toF f n).keys.length cK, .bool (toF f n).done, .int .i64 (toF f n).e]) (by simp [results, Try.results98, go_sem, toF]) rfl ⟨rfl, ((Fine.refl w (fun k => k = X)).set (k := X) (.inl rfl) 6 _).below (one_below _ _), ?_⟩
  rw [Below.heap_alloc _ _ _ (by simp; exact fs), block_setCell HX.out]
  rfl

theorem Lk2.to {w w1 w2 : World} {Z : Nat → Prop} {B lo : Nat} {M : Mm} {f g : Fr} {aK : Option Addr} {cK : Nat} (h : Lk2 w w1 Z B lo M f aK cK) (hf : Fine w1 w2 (fun k => k = w.heap.size)) (hx : w2.heap[w.heap.size]? = some (.cells #[.int .i64 g.c.kind, .int .i64 g.c.a, .int .i64 g.c.b, .int .i64 g.c.time, .int .i64 g.c.bk, .int .i64 g.c.slot, .int .i64 g.pl, .int .i64 g.cur, .int .i64 g.prev, .int .i64 g.slot, .int .i64 g.n, .slice aK g.keys.length cK, .bool g.done, .int .i64 g.e] 51 (0, 0))) : Lk2 w w2 Z B lo M g aK cK := by
  obtain ⟨aS, aH, aF, aL, cS, cH, cF, cL, m, hz⟩ := h.mine
  refine ⟨h.zl, h.fine.trans hf (fun k h1 h2 => by omega), ⟨aS, aH, aF, aL, cS, cH, cF, cL, m.same hf.size (fun k h1 h2 => hf.block k h1 ?_), hz⟩, hx, (hf.block _ (lt_of_block h.zb) (by omega)).trans h.zb⟩
  rcases hz k h2 with h3 | h3
  · have := h.zl k h3; omega
  · omega

set_option maxHeartbeats 3200000 in
theorem rstep7 (M : Mm) (c : Cl) (cur prev slot nn ee : Int) (keys : List (Int × Int)) (B lo : Nat) (aS aH aF aL : Option Addr) (cS cH cF cL : Nat) (aK : Option Addr) (cK : Nat) (w : World) (b : Nat)
    (m : Mine w B lo aS aH aF aL cS cH cF cL M) (HR : Hid (KRow w aK cK keys)) (HZ : Hid (∀ ad, aK = some ad → ¬ Foot B aS aH aF aL ad.block)) (pl : Int) (h7 : 7 ≤ pl)
    (HBk : Hid (∀ W : World, Calls Try.prog 32 #[.agg #[.slice aS M.slots.length cS, .slice aH M.heads.length cH, .slice aF M.free.length cF, .slice aL M.locks.length cL, .int .i64 M.now], .agg #[.int .i64 c.kind, .int .i64 c.a, .int .i64 c.b, .int .i64 c.time, .int .i64 c.bk, .int .i64 c.slot]] W fun e w' => e = .returned (.int .i64 (b : Int)) ∧ Below W.heap.size W w')) :
    Calls Try.prog 37 #[.pointer (some ⟨B, 0, none⟩), .agg #[.int .i64 c.kind, .int .i64 c.a, .int .i64 c.b, .int .i64 c.time, .int .i64 c.bk, .int .i64 c.slot, .int .i64 pl, .int .i64 cur, .int .i64 prev, .int .i64 slot, .int .i64 nn, .slice aK keys.length cK, .bool false, .int .i64 ee]] w fun e w' => Ret w w' e (toF ⟨c, pl, cur, prev, slot, nn, keys, false, ee⟩ 0) aK cK ∧ Has w' B lo (Up w (Foot B aS aH aF aL)) (M) ∧ Fine w w' (Foot B aS aH aF aL) := by
  have p0 : (pl == 0) = false := by rw [beq_eq_false_iff_ne]; omega
  have p1 : (pl == 1) = false := by rw [beq_eq_false_iff_ne]; omega
  have p2 : (pl == 2) = false := by rw [beq_eq_false_iff_ne]; omega
  have p3 : (pl == 3) = false := by rw [beq_eq_false_iff_ne]; omega
  have p4 : (pl == 4) = false := by rw [beq_eq_false_iff_ne]; omega
  have p5 : (pl == 5) = false := by rw [beq_eq_false_iff_ne]; omega
  have p6 : (pl == 6) = false := by rw [beq_eq_false_iff_ne]; omega
  obtain ⟨of, hof⟩ : ∃ o : Obj, o = .cells #[.int .i64 c.kind, .int .i64 c.a, .int .i64 c.b, .int .i64 c.time, .int .i64 c.bk, .int .i64 c.slot, .int .i64 pl, .int .i64 cur, .int .i64 prev, .int .i64 slot, .int .i64 nn, .slice aK keys.length cK, .bool false, .int .i64 ee] 51 := ⟨_, rfl⟩
  obtain ⟨oz, hoz⟩ : ∃ o : Obj, o = zeroFr := ⟨_, rfl⟩
  have HE : Hid (Lk w ((w.alloc of).alloc oz) B lo aS aH aF aL cS cH cF cL M ⟨c, pl, cur, prev, slot, nn, keys, false, ee⟩ aK cK) := Lk.first m ⟨c, pl, cur, prev, slot, nn, keys, false, ee⟩ aK cK hof hoz
  obtain ⟨f0, f1, f2, f3, f4, f5, f6, f7, f8, f9, f10, f11, f12, f13, ff, fs⟩ := framef (show ((w.alloc of).alloc oz).heap[w.heap.size]? = some (.cells #[.int .i64 c.kind, .int .i64 c.a, .int .i64 c.b, .int .i64 c.time, .int .i64 c.bk, .int .i64 c.slot, .int .i64 pl, .int .i64 cur, .int .i64 prev, .int .i64 slot, .int .i64 nn, .slice aK keys.length cK, .bool false, .int .i64 ee] 51 (0, 0)) from HE.out.fb)
  obtain ⟨q0, q1, q2, q3, q4, -, -, -, -, -, qs⟩ := boxf HE.out.m.box
  unfold zeroFr at hoz
  clear m
  go_enter Try.func37, Try.ntmps37
  go_wp2_with fail
  rw [← hof, ← hoz]
  generalize (w.alloc of).alloc oz = W0 at *
  subst hof hoz
  have cB : ∀ (d : Nat) (os : Array Obj), Calls Try.prog 32 #[.agg #[.slice aS M.slots.length cS, .slice aH M.heads.length cH, .slice aF M.free.length cF, .slice aL M.locks.length cL, .int .i64 M.now], .agg #[.int .i64 c.kind, .int .i64 c.a, .int .i64 c.b, .int .i64 c.time, .int .i64 c.bk, .int .i64 c.slot]] (grow (redrawn W0 d) os) fun e w'' => e = .returned (.int .i64 (b : Int)) ∧ ∃ p : Regrown, w'' = grow (redrawn W0 p.d) p.os := fun d os => Calls.regrown_of (HBk.out _)
  have Q0 := cell_regrown q0; have Q1 := cell_regrown q1; have Q2 := cell_regrown q2; have Q3 := cell_regrown q3; have Q4 := cell_regrown q4
  have F0 := cell_regrown f0; have F1 := cell_regrown f1; have F2 := cell_regrown f2; have F3 := cell_regrown f3; have F4 := cell_regrown f4; have F5 := cell_regrown f5
  clear q0 q1 q2 q3 q4 qs f0 f1 f2 f3 f4 f5 f6 f7 f8 f9 f10 f11 f12 f13 ff fs
  refine wp_region_quiet_below (by kernel_rfl) (by kernel_rfl) ?_
  repeat (quiet_step (first | exact cB _ _))
  refine wpQuiet_nil ?_
  intro _ hw'
  obtain ⟨⟨dq, osq⟩, hw''⟩ := hw'
  subst hw''
  have HE1 : Hid (Lk w (grow (redrawn W0 dq) osq) B lo aS aH aF aL cS cH cF cL M ⟨c, pl, cur, prev, slot, nn, keys, false, ee⟩ aK cK) := HE.out.below (below_regrown W0 dq osq)
  generalize grow (redrawn W0 dq) osq = w1 at *
  clear cB Q0 Q1 Q2 Q3 Q4 F0 F1 F2 F3 F4 F5 HE HBk
  obtain ⟨f0, f1, f2, f3, f4, f5, f6, f7, f8, f9, f10, f11, f12, f13, ff, fs⟩ := framef (show w1.heap[w.heap.size]? = some (.cells #[.int .i64 c.kind, .int .i64 c.a, .int .i64 c.b, .int .i64 c.time, .int .i64 c.bk, .int .i64 c.slot, .int .i64 pl, .int .i64 cur, .int .i64 prev, .int .i64 slot, .int .i64 nn, .slice aK keys.length cK, .bool false, .int .i64 ee] 51 (0, 0)) from HE1.out.fb)
  obtain ⟨q0, q1, q2, q3, q4, -, -, -, -, -, qs⟩ := boxf HE1.out.m.box
  go_wp2_with fail
  have HE2 : Hid (Lk2 w _ (Foot B aS aH aF aL) B lo M ⟨c, pl, cur, prev, slot, nn, keys, false, ee⟩ aK cK) := HE1.out.bare
  clear HE1
  refine (rto_any ⟨c, pl, cur, prev, slot, nn, keys, false, ee⟩ 0 w.heap.size aK cK _ HE2.out.fb).mono ?_
  rintro e w9 ⟨rfl, hf9, hx9⟩
  have HE9 : Hid (Lk2 w w9 (Foot B aS aH aF aL) B lo M (toF ⟨c, pl, cur, prev, slot, nn, keys, false, ee⟩ 0) aK cK) := HE2.out.to hf9 hx9
  clear HE2 hf9 hx9
  clear q0 q1 q2 q3 q4 qs f0 f1 f2 f3 f4 f5 f6 f7 f8 f9 f10 f11 f12 f13 ff fs
  obtain ⟨g0, g1, g2, g3, g4, g5, g6, g7, g8, g9, g10, g11, g12, g13, gf, gs⟩ := framef HE9.out.zb
  go_wp2
  refine bodyPost_ret (v := .agg #[.int .i64 (toF ⟨c, pl, cur, prev, slot, nn, keys, false, ee⟩ 0).c.kind, .int .i64 (toF ⟨c, pl, cur, prev, slot, nn, keys, false, ee⟩ 0).c.a, .int .i64 (toF ⟨c, pl, cur, prev, slot, nn, keys, false, ee⟩ 0).c.b, .int .i64 (toF ⟨c, pl, cur, prev, slot, nn, keys, false, ee⟩ 0).c.time, .int .i64 (toF ⟨c, pl, cur, prev, slot, nn, keys, false, ee⟩ 0).c.bk, .int .i64 (toF ⟨c, pl, cur, prev, slot, nn, keys, false, ee⟩ 0).c.slot, .int .i64 (toF ⟨c, pl, cur, prev, slot, nn, keys, false, ee⟩ 0).pl, .int .i64 (toF ⟨c, pl, cur, prev, slot, nn, keys, false, ee⟩ 0).cur, .int .i64 (toF ⟨c, pl, cur, prev, slot, nn, keys, false, ee⟩ 0).prev, .int .i64 (toF ⟨c, pl, cur, prev, slot, nn, keys, false, ee⟩ 0).slot, .int .i64 (toF ⟨c, pl, cur, prev, slot, nn, keys, false, ee⟩ 0).n, .slice aK (toF ⟨c, pl, cur, prev, slot, nn, keys, false, ee⟩ 0).keys.length cK, .bool (toF ⟨c, pl, cur, prev, slot, nn, keys, false, ee⟩ 0).done, .int .i64 (toF ⟨c, pl, cur, prev, slot, nn, keys, false, ee⟩ 0).e]) (by simp [results, Try.results37, go_sem, toF, g0, g1, g2, g3, g4, g5, g6, g7, g8, g9, g10, g11, g12, g13]) rfl ⟨⟨aK, cK, rfl, HR.out.fine HE9.out.end14.2 HZ.out, (fun ad h => .inl h), fun _ => ⟨rfl, rfl⟩⟩, HE9.out.end14⟩

set_option maxHeartbeats 3200000 in
theorem rstep0 (M : Mm) (c : Cl) (cur prev slot nn ee : Int) (keys : List (Int × Int)) (B lo : Nat) (aS aH aF aL : Option Addr) (cS cH cF cL : Nat) (aK : Option Addr) (cK : Nat) (w : World) (b : Nat)
    (m : Mine w B lo aS aH aF aL cS cH cF cL M) (HR : Hid (KRow w aK cK keys)) (HZ : Hid (∀ ad, aK = some ad → ¬ Foot B aS aH aF aL ad.block)) (x : Int) (hbl : b < M.heads.length) (hnh : M.heads.length ≤ 4) (hx : x = M.heads[b])
    (HBk : Hid (∀ W : World, Calls Try.prog 32 #[.agg #[.slice aS M.slots.length cS, .slice aH M.heads.length cH, .slice aF M.free.length cF, .slice aL M.locks.length cL, .int .i64 M.now], .agg #[.int .i64 c.kind, .int .i64 c.a, .int .i64 c.b, .int .i64 c.time, .int .i64 c.bk, .int .i64 c.slot]] W fun e w' => e = .returned (.int .i64 (b : Int)) ∧ Below W.heap.size W w')) :
    Calls Try.prog 37 #[.pointer (some ⟨B, 0, none⟩), .agg #[.int .i64 c.kind, .int .i64 c.a, .int .i64 c.b, .int .i64 c.time, .int .i64 c.bk, .int .i64 c.slot, .int .i64 0, .int .i64 cur, .int .i64 prev, .int .i64 slot, .int .i64 nn, .slice aK keys.length cK, .bool false, .int .i64 ee]] w fun e w' => Ret w w' e (curF ⟨c, 0, cur, prev, slot, nn, keys, false, ee⟩ x 1) aK cK ∧ Has w' B lo (Up w (Foot B aS aH aF aL)) (M) ∧ Fine w w' (Foot B aS aH aF aL) := by
  obtain ⟨gH, rfl, oH, lH, -, -⟩ := row_form m.c.h (by omega)
  have HX : Hid (∀ W, Mine W B lo aS (some ⟨gH, 0, none⟩) aF aL cS cH cF cL M → W.cell? ⟨gH, b, none⟩ = some (.int .i64 x)) := fun W m' => by rw [hx]; exact (row_cell m'.c.h hbl).1
  clear hx
  obtain ⟨of, hof⟩ : ∃ o : Obj, o = .cells #[.int .i64 c.kind, .int .i64 c.a, .int .i64 c.b, .int .i64 c.time, .int .i64 c.bk, .int .i64 c.slot, .int .i64 0, .int .i64 cur, .int .i64 prev, .int .i64 slot, .int .i64 nn, .slice aK keys.length cK, .bool false, .int .i64 ee] 51 := ⟨_, rfl⟩
  obtain ⟨oz, hoz⟩ : ∃ o : Obj, o = zeroFr := ⟨_, rfl⟩
  have HE : Hid (Lk w ((w.alloc of).alloc oz) B lo aS (some ⟨gH, 0, none⟩) aF aL cS cH cF cL M ⟨c, 0, cur, prev, slot, nn, keys, false, ee⟩ aK cK) := Lk.first m ⟨c, 0, cur, prev, slot, nn, keys, false, ee⟩ aK cK hof hoz
  obtain ⟨f0, f1, f2, f3, f4, f5, f6, f7, f8, f9, f10, f11, f12, f13, ff, fs⟩ := framef (show ((w.alloc of).alloc oz).heap[w.heap.size]? = some (.cells #[.int .i64 c.kind, .int .i64 c.a, .int .i64 c.b, .int .i64 c.time, .int .i64 c.bk, .int .i64 c.slot, .int .i64 0, .int .i64 cur, .int .i64 prev, .int .i64 slot, .int .i64 nn, .slice aK keys.length cK, .bool false, .int .i64 ee] 51 (0, 0)) from HE.out.fb)
  obtain ⟨q0, q1, q2, q3, q4, -, -, -, -, -, qs⟩ := boxf HE.out.m.box
  unfold zeroFr at hoz
  clear m
  go_enter Try.func37, Try.ntmps37
  go_wp2_with fail
  rw [← hof, ← hoz]
  generalize (w.alloc of).alloc oz = W0 at *
  subst hof hoz
  have cB : ∀ (d : Nat) (os : Array Obj), Calls Try.prog 32 #[.agg #[.slice aS M.slots.length cS, .slice (some ⟨gH, 0, none⟩) M.heads.length cH, .slice aF M.free.length cF, .slice aL M.locks.length cL, .int .i64 M.now], .agg #[.int .i64 c.kind, .int .i64 c.a, .int .i64 c.b, .int .i64 c.time, .int .i64 c.bk, .int .i64 c.slot]] (grow (redrawn W0 d) os) fun e w'' => e = .returned (.int .i64 (b : Int)) ∧ ∃ p : Regrown, w'' = grow (redrawn W0 p.d) p.os := fun d os => Calls.regrown_of (HBk.out _)
  have Q0 := cell_regrown q0; have Q1 := cell_regrown q1; have Q2 := cell_regrown q2; have Q3 := cell_regrown q3; have Q4 := cell_regrown q4
  have F0 := cell_regrown f0; have F1 := cell_regrown f1; have F2 := cell_regrown f2; have F3 := cell_regrown f3; have F4 := cell_regrown f4; have F5 := cell_regrown f5
  clear q0 q1 q2 q3 q4 qs f0 f1 f2 f3 f4 f5 f6 f7 f8 f9 f10 f11 f12 f13 ff fs
  refine wp_region_quiet_below (by kernel_rfl) (by kernel_rfl) ?_
  repeat (quiet_step (first | exact cB _ _))
  refine wpQuiet_nil ?_
  intro _ hw'
  obtain ⟨⟨dq, osq⟩, hw''⟩ := hw'
  subst hw''
  have HE1 : Hid (Lk w (grow (redrawn W0 dq) osq) B lo aS (some ⟨gH, 0, none⟩) aF aL cS cH cF cL M ⟨c, 0, cur, prev, slot, nn, keys, false, ee⟩ aK cK) := HE.out.below (below_regrown W0 dq osq)
  generalize grow (redrawn W0 dq) osq = w1 at *
  clear cB Q0 Q1 Q2 Q3 Q4 F0 F1 F2 F3 F4 F5 HE HBk
  obtain ⟨f0, f1, f2, f3, f4, f5, f6, f7, f8, f9, f10, f11, f12, f13, ff, fs⟩ := framef (show w1.heap[w.heap.size]? = some (.cells #[.int .i64 c.kind, .int .i64 c.a, .int .i64 c.b, .int .i64 c.time, .int .i64 c.bk, .int .i64 c.slot, .int .i64 0, .int .i64 cur, .int .i64 prev, .int .i64 slot, .int .i64 nn, .slice aK keys.length cK, .bool false, .int .i64 ee] 51 (0, 0)) from HE1.out.fb)
  obtain ⟨q0, q1, q2, q3, q4, -, -, -, -, -, qs⟩ := boxf HE1.out.m.box
  have hc := HX.out w1 HE1.out.m
  go_wp2_with fail
  have HE2 : Hid (Lk2 w _ (Foot B aS (some ⟨gH, 0, none⟩) aF aL) B lo M { (⟨c, 0, cur, prev, slot, nn, keys, false, ee⟩ : Fr) with cur := x } aK cK) := HE1.out.bare.store 7 (.int .i64 x) { (⟨c, 0, cur, prev, slot, nn, keys, false, ee⟩ : Fr) with cur := x } rfl
  clear HE1 hc
  refine (rto_any ⟨c, 0, x, prev, slot, nn, keys, false, ee⟩ 1 w.heap.size aK cK _ HE2.out.fb).mono ?_
  rintro e w9 ⟨rfl, hf9, hx9⟩
  have HE9 : Hid (Lk2 w w9 (Foot B aS (some ⟨gH, 0, none⟩) aF aL) B lo M (toF ⟨c, 0, x, prev, slot, nn, keys, false, ee⟩ 1) aK cK) := HE2.out.to hf9 hx9
  clear HE2 hf9 hx9
  clear q0 q1 q2 q3 q4 qs f0 f1 f2 f3 f4 f5 f6 f7 f8 f9 f10 f11 f12 f13 ff fs
  obtain ⟨g0, g1, g2, g3, g4, g5, g6, g7, g8, g9, g10, g11, g12, g13, gf, gs⟩ := framef HE9.out.zb
  go_wp2
  refine bodyPost_ret (v := .agg #[.int .i64 (curF ⟨c, 0, cur, prev, slot, nn, keys, false, ee⟩ x 1).c.kind, .int .i64 (curF ⟨c, 0, cur, prev, slot, nn, keys, false, ee⟩ x 1).c.a, .int .i64 (curF ⟨c, 0, cur, prev, slot, nn, keys, false, ee⟩ x 1).c.b, .int .i64 (curF ⟨c, 0, cur, prev, slot, nn, keys, false, ee⟩ x 1).c.time, .int .i64 (curF ⟨c, 0, cur, prev, slot, nn, keys, false, ee⟩ x 1).c.bk, .int .i64 (curF ⟨c, 0, cur, prev, slot, nn, keys, false, ee⟩ x 1).c.slot, .int .i64 (curF ⟨c, 0, cur, prev, slot, nn, keys, false, ee⟩ x 1).pl, .int .i64 (curF ⟨c, 0, cur, prev, slot, nn, keys, false, ee⟩ x 1).cur, .int .i64 (curF ⟨c, 0, cur, prev, slot, nn, keys, false, ee⟩ x 1).prev, .int .i64 (curF ⟨c, 0, cur, prev, slot, nn, keys, false, ee⟩ x 1).slot, .int .i64 (curF ⟨c, 0, cur, prev, slot, nn, keys, false, ee⟩ x 1).n, .slice aK (curF ⟨c, 0, cur, prev, slot, nn, keys, false, ee⟩ x 1).keys.length cK, .bool (curF ⟨c, 0, cur, prev, slot, nn, keys, false, ee⟩ x 1).done, .int .i64 (curF ⟨c, 0, cur, prev, slot, nn, keys, false, ee⟩ x 1).e]) (by simp [results, Try.results37, go_sem, curF, toF, g0, g1, g2, g3, g4, g5, g6, g7, g8, g9, g10, g11, g12, g13]) rfl ⟨⟨aK, cK, rfl, HR.out.fine HE9.out.end14.2 HZ.out, (fun ad h => .inl h), fun _ => ⟨rfl, rfl⟩⟩, HE9.out.end14⟩


end Go.Proofs.Ytdbilofhcadmoab.mm
