/- The contracts of add's parts: late, until, begin, see, pass. -/
import Derived.Test.YtdbilofhcadmoabEc06
import Derived.Test.YtdbilofhcadmoabEc11
import Derived.Deep.QuietTactic
import Derived.BigQuiet
import Derived.Lib.QuietBelow
import Derived.OrdersHeld
namespace Go.Proofs.Ytdbilofhcadmoab.mm
open Go.ChangeShapes Go.WideShapes Go.ChangeAt Go.RowKit Go.Joins Go.Deep Go.Sort
set_option maxRecDepth 100000
set_option linter.unusedVariables false

theorem Lk.two {w w1 : World} {B lo : Nat} {aS aH aF aL : Option Addr} {cS cH cF cL : Nat} {M : Mm} {f : Fr} {aK : Option Addr} {cK : Nat} (h : Lk w w1 B lo aS aH aF aL cS cH cF cL M f aK cK) : Lk2 w w1 (Foot B aS aH aF aL) B lo M f aK cK :=
  ⟨h.lt, .of_below _ h.bl, ⟨_, _, _, _, _, _, _, _, h.m, fun k hk => .inl hk⟩, h.fb, h.zb⟩

theorem zero_at {w w9 : World} {o : Obj} (hb : Below ((w.alloc o).alloc zeroFr).heap.size ((w.alloc o).alloc zeroFr) w9) : Below w.heap.size w w9 ∧ w9.heap[w.heap.size + 1]? = some zeroFr := by
  have h0 : ((w.alloc o).alloc zeroFr).heap[w.heap.size + 1]? = some zeroFr := by
    have := heap_alloc_new (w.alloc o) zeroFr
    simpa using this
  exact ⟨(below_alloc2 w o zeroFr).trans (hb.mono (below_alloc2 w o zeroFr).size), (hb.block _ (lt_of_block h0)).trans h0⟩

theorem late_any (f : Fr) (aK : Option Addr) (cK : Nat) (w : World) :
    Calls Try.prog 120 #[.agg #[.int .i64 f.c.kind, .int .i64 f.c.a, .int .i64 f.c.b, .int .i64 f.c.time, .int .i64 f.c.bk, .int .i64 f.c.slot, .int .i64 f.pl, .int .i64 f.cur, .int .i64 f.prev, .int .i64 f.slot, .int .i64 f.n, .slice aK f.keys.length cK, .bool f.done, .int .i64 f.e]] w fun e w' => e = .returned (.agg #[.int .i64 (lateF f).c.kind, .int .i64 (lateF f).c.a, .int .i64 (lateF f).c.b, .int .i64 (lateF f).c.time, .int .i64 (lateF f).c.bk, .int .i64 (lateF f).c.slot, .int .i64 (lateF f).pl, .int .i64 (lateF f).cur, .int .i64 (lateF f).prev, .int .i64 (lateF f).slot, .int .i64 (lateF f).n, .slice aK (lateF f).keys.length cK, .bool (lateF f).done, .int .i64 (lateF f).e]) ∧ Below w.heap.size w w' := by
  go_enter Try.func120, Try.ntmps120
  go_wp2_with fail
  refine (to_any { f with e := 8 } 7 aK cK _).mono ?_
  rintro e w9 ⟨rfl, hb9⟩
  have HE9 : Hid (Below w.heap.size w w9 ∧ w9.heap[w.heap.size + 1]? = some zeroFr) := zero_at hb9
  clear hb9
  obtain ⟨g0, g1, g2, g3, g4, g5, g6, g7, g8, g9, g10, g11, g12, g13, gf, gs⟩ := framef HE9.out.2
  go_wp2
  refine bodyPost_ret (v := .agg #[.int .i64 (lateF f).c.kind, .int .i64 (lateF f).c.a, .int .i64 (lateF f).c.b, .int .i64 (lateF f).c.time, .int .i64 (lateF f).c.bk, .int .i64 (lateF f).c.slot, .int .i64 (lateF f).pl, .int .i64 (lateF f).cur, .int .i64 (lateF f).prev, .int .i64 (lateF f).slot, .int .i64 (lateF f).n, .slice aK (lateF f).keys.length cK, .bool (lateF f).done, .int .i64 (lateF f).e]) (by simp [results, Try.results120, go_sem, lateF, toF, g0, g1, g2, g3, g4, g5, g6, g7, g8, g9, g10, g11, g12, g13]) rfl ⟨rfl, set14 HE9.out.1⟩

theorem until_any (now time : Int) (w : World) (h0 : 0 ≤ now) (h1 : now ≤ 1000000) (h2 : 1 ≤ time) (h3 : time ≤ 1000000) :
    Calls Try.prog 154 #[.int .i64 now, .int .i64 time] w fun e w' => e = .returned (.int .i64 (now + time)) ∧ w = w' := by
  have e1 : decide (0 < time) = true := by rw [decide_eq_true_iff]; omega
  have e2 : ¬ (2000000 - time < now) := by omega
  have e3 : ¬ (2000000 < now + time) := by omega
  go_enter Try.func154, Try.ntmps154
  go_wp2
  go_ret
  exact ⟨rfl, rfl⟩

set_option maxHeartbeats 3200000 in
theorem ad_begin (M : Mm) (f : Fr) (B lo : Nat) (aS aH aF aL : Option Addr) (cS cH cF cL : Nat) (aK : Option Addr) (cK : Nat) (w : World)
    (m : Mine w B lo aS aH aF aL cS cH cF cL M) (hM : Ok M) (hf : Fit M f) (r : KRow w aK cK f.keys) (hz : ∀ ad, aK = some ad → ¬ Foot B aS aH aF aL ad.block) :
    Calls Try.prog 114 #[.pointer (some ⟨B, 0, none⟩), .agg #[.int .i64 f.c.kind, .int .i64 f.c.a, .int .i64 f.c.b, .int .i64 f.c.time, .int .i64 f.c.bk, .int .i64 f.c.slot, .int .i64 f.pl, .int .i64 f.cur, .int .i64 f.prev, .int .i64 f.slot, .int .i64 f.n, .slice aK f.keys.length cK, .bool f.done, .int .i64 f.e]] w fun e w' => Ret w w' e (curF f (headM M (bkN M f)) 3) aK cK ∧ Has w' B lo (Up w (Foot B aS aH aF aL)) (M) ∧ Fine w w' (Foot B aS aH aF aL) := by
  have hns := hM.ns
  have hnh := hM.nh.2
  have hcur := hf.cur.2
  have hc1 : f.cur ≤ 1000 := by omega
  have hn1 : M.slots.length ≤ 1000 := by omega
  have HOk : Hid (Ok M) := hM
  have HR : Hid (KRow w aK cK f.keys) := r
  obtain ⟨b0, b1⟩ := bkOf_in hM hf.call
  obtain ⟨b, hb⟩ : ∃ b : Nat, bkOf M.heads.length f.c = b := ⟨_, (Int.toNat_of_nonneg b0).symm⟩
  have hbl : b < M.heads.length := by omega
  obtain ⟨gH, rfl, oH, lH, -, -⟩ := row_form m.c.h (by omega)
  obtain ⟨x, hx⟩ : ∃ x, x = M.heads[b] := ⟨_, rfl⟩
  have hhd : headM M (bkN M f) = x := by unfold bkN; rw [hb, hx]; simp [headM, List.getD_eq_getElem?_getD, hbl]
  rw [hhd]
  have HX : Hid (∀ W, Mine W B lo aS (some ⟨gH, 0, none⟩) aF aL cS cH cF cL M → W.cell? ⟨gH, b, none⟩ = some (.int .i64 x)) := fun W m' => by rw [hx]; exact (row_cell m'.c.h hbl).1
  have HBk : Hid (∀ W : World, Calls Try.prog 31 #[.agg #[.slice aS M.slots.length cS, .slice (some ⟨gH, 0, none⟩) M.heads.length cH, .slice aF M.free.length cF, .slice aL M.locks.length cL, .int .i64 M.now], .agg #[.int .i64 f.c.kind, .int .i64 f.c.a, .int .i64 f.c.b, .int .i64 f.c.time, .int .i64 f.c.bk, .int .i64 f.c.slot]] W fun e w' => e = .returned (.int .i64 (b : Int)) ∧ Below W.heap.size W w') := fun W => hb ▸ frBucket_any _ _ _ _ _ _ _ _ cS cH cF cL M.now f.c W (by omega)
  have HCh : Hid (∀ W : World, Calls Try.prog 75 #[.agg #[.slice aS M.slots.length cS, .slice (some ⟨gH, 0, none⟩) M.heads.length cH, .slice aF M.free.length cF, .slice aL M.locks.length cL, .int .i64 M.now], .int .i64 (b : Int)] W fun e w' => e = .returned (.bool true) ∧ Below W.heap.size W w') := fun W => (show inB (b : Int) 0 ((M.heads.length : Int) - 1) = true from (inB_iff _ _ _).2 (by omega)) ▸ hasChain_any _ _ _ _ _ _ _ _ cS cH cF cL M.now (b : Int) W (by omega)
  have HZ : Hid (∀ ad, aK = some ad → ¬ (Foot B aS (some ⟨gH, 0, none⟩) aF aL) ad.block) := hz
  obtain ⟨of, hof⟩ : ∃ o : Obj, o = .cells #[.int .i64 f.c.kind, .int .i64 f.c.a, .int .i64 f.c.b, .int .i64 f.c.time, .int .i64 f.c.bk, .int .i64 f.c.slot, .int .i64 f.pl, .int .i64 f.cur, .int .i64 f.prev, .int .i64 f.slot, .int .i64 f.n, .slice aK f.keys.length cK, .bool f.done, .int .i64 f.e] 51 := ⟨_, rfl⟩
  obtain ⟨oz, hoz⟩ : ∃ o : Obj, o = zeroFr := ⟨_, rfl⟩
  have HE : Hid (Lk w ((w.alloc of).alloc oz) B lo aS (some ⟨gH, 0, none⟩) aF aL cS cH cF cL M f aK cK) := Lk.first m f aK cK hof hoz
  obtain ⟨q0, q1, q2, q3, q4, -, -, -, -, -, qs⟩ := boxf HE.out.m.box
  obtain ⟨f0, f1, f2, f3, f4, f5, f6, f7, f8, f9, f10, f11, f12, f13, ff, fs⟩ := framef HE.out.fb
  unfold zeroFr at hoz
  clear m hc1 hn1 hcur hns hnh hM hf r hz hx hhd hb b0 b1 oH lH
  go_enter Try.func114, Try.ntmps114
  go_wp2_with fail
  rw [← hof, ← hoz]
  generalize (w.alloc of).alloc oz = W0 at *
  subst hof hoz
  have cB : ∀ (d : Nat) (os : Array Obj), Calls Try.prog 31 #[.agg #[.slice aS M.slots.length cS, .slice (some ⟨gH, 0, none⟩) M.heads.length cH, .slice aF M.free.length cF, .slice aL M.locks.length cL, .int .i64 M.now], .agg #[.int .i64 f.c.kind, .int .i64 f.c.a, .int .i64 f.c.b, .int .i64 f.c.time, .int .i64 f.c.bk, .int .i64 f.c.slot]] (grow (redrawn W0 d) os) fun e w'' => e = .returned (.int .i64 (b : Int)) ∧ ∃ p : Regrown, w'' = grow (redrawn W0 p.d) p.os := fun d os => Calls.regrown_of (HBk.out _)
  have Xq0 := cell_regrown q0
  have Xq1 := cell_regrown q1
  have Xq2 := cell_regrown q2
  have Xq3 := cell_regrown q3
  have Xq4 := cell_regrown q4
  have Xf0 := cell_regrown f0
  have Xf1 := cell_regrown f1
  have Xf2 := cell_regrown f2
  have Xf3 := cell_regrown f3
  have Xf4 := cell_regrown f4
  have Xf5 := cell_regrown f5
  clear q0 q1 q2 q3 q4 qs
  clear f0 f1 f2 f3 f4 f5 f6 f7 f8 f9 f10 f11 f12 f13 ff fs
  refine wp_region_quiet_below (by kernel_rfl) (by kernel_rfl) ?_
  repeat (quiet_step (first | exact cB _ _))
  refine wpQuiet_nil ?_
  intro _ hw'
  obtain ⟨⟨dq, osq⟩, hw''⟩ := hw'
  subst hw''
  have HE1 : Hid (Lk w (grow (redrawn W0 dq) osq) B lo aS (some ⟨gH, 0, none⟩) aF aL cS cH cF cL M f aK cK) := HE.out.below (below_regrown W0 dq osq)
  generalize grow (redrawn W0 dq) osq = w1 at *
  clear Xq0 Xq1 Xq2 Xq3 Xq4 Xf0 Xf1 Xf2 Xf3 Xf4 Xf5 HE
  clear cB
  obtain ⟨q0, q1, q2, q3, q4, -, -, -, -, -, qs⟩ := boxf HE1.out.m.box
  go_wp2_with fail
  refine (HCh.out w1).mono ?_
  rintro e w2 ⟨rfl, hb2⟩
  have HE2 : Hid (Lk w w2 B lo aS (some ⟨gH, 0, none⟩) aF aL cS cH cF cL M f aK cK) := HE1.out.below hb2
  clear HE1 hb2
  clear q0 q1 q2 q3 q4 qs
  obtain ⟨q0, q1, q2, q3, q4, -, -, -, -, -, qs⟩ := boxf HE2.out.m.box
  obtain ⟨f0, f1, f2, f3, f4, f5, f6, f7, f8, f9, f10, f11, f12, f13, ff, fs⟩ := framef HE2.out.fb
  have hc := HX.out w2 HE2.out.m
  go_wp2_with fail
  have HE3 : Hid (Lk2 w _ (Foot B aS (some ⟨gH, 0, none⟩) aF aL) B lo M { f with cur := x } aK cK) := (HE2.out.store 7 (.int .i64 x) { f with cur := x } rfl).two
  clear hc HE2
  clear q0 q1 q2 q3 q4 qs
  refine (to_any { f with cur := x } 3 aK cK _).mono ?_
  rintro e w9 ⟨rfl, hb9⟩
  have HE9 : Hid (Lk2 w w9 (Foot B aS (some ⟨gH, 0, none⟩) aF aL) B lo M { f with cur := x } aK cK) := HE3.out.below hb9
  clear HE3 hb9
  clear f0 f1 f2 f3 f4 f5 f6 f7 f8 f9 f10 f11 f12 f13 ff fs
  obtain ⟨g0, g1, g2, g3, g4, g5, g6, g7, g8, g9, g10, g11, g12, g13, gf, gs⟩ := framef HE9.out.zb
  go_wp2
  refine bodyPost_ret (v := .agg #[.int .i64 (curF f x 3).c.kind, .int .i64 (curF f x 3).c.a, .int .i64 (curF f x 3).c.b, .int .i64 (curF f x 3).c.time, .int .i64 (curF f x 3).c.bk, .int .i64 (curF f x 3).c.slot, .int .i64 (curF f x 3).pl, .int .i64 (curF f x 3).cur, .int .i64 (curF f x 3).prev, .int .i64 (curF f x 3).slot, .int .i64 (curF f x 3).n, .slice aK (curF f x 3).keys.length cK, .bool (curF f x 3).done, .int .i64 (curF f x 3).e]) (by simp [results, Try.results114, go_sem, curF, toF, g0, g1, g2, g3, g4, g5, g6, g7, g8, g9, g10, g11, g12, g13]) rfl ⟨⟨aK, cK, rfl, HR.out.fine HE9.out.end14.2 HZ.out, (fun ad h => .inl h), fun _ => ⟨rfl, rfl⟩⟩, HE9.out.end14⟩

set_option maxHeartbeats 3200000 in
theorem ad_see (M : Mm) (f : Fr) (B lo : Nat) (aS aH aF aL : Option Addr) (cS cH cF cL : Nat) (aK : Option Addr) (cK : Nat) (w : World)
    (m : Mine w B lo aS aH aF aL cS cH cF cL M) (hM : Ok M) (hf : Fit M f) (r : KRow w aK cK f.keys) (hz : ∀ ad, aK = some ad → ¬ Foot B aS aH aF aL ad.block) :
    Calls Try.prog 115 #[.pointer (some ⟨B, 0, none⟩), .agg #[.int .i64 f.c.kind, .int .i64 f.c.a, .int .i64 f.c.b, .int .i64 f.c.time, .int .i64 f.c.bk, .int .i64 f.c.slot, .int .i64 f.pl, .int .i64 f.cur, .int .i64 f.prev, .int .i64 f.slot, .int .i64 f.n, .slice aK f.keys.length cK, .bool f.done, .int .i64 f.e]] w fun e w' => Ret w w' e (adSee M f) aK cK ∧ Has w' B lo (Up w (Foot B aS aH aF aL)) (M) ∧ Fine w w' (Foot B aS aH aF aL) := by
  have hns := hM.ns
  have hnh := hM.nh.2
  have hcur := hf.cur.2
  have hc1 : f.cur ≤ 1000 := by omega
  have hn1 : M.slots.length ≤ 1000 := by omega
  have HOk : Hid (Ok M) := hM
  have HR : Hid (KRow w aK cK f.keys) := r
  by_cases hat : isAt M f = true
  · have h1 := isAt_iff.1 hat
    obtain ⟨j, hj⟩ : ∃ j : Nat, f.cur - 1 = j := ⟨(f.cur - 1).toNat, by omega⟩
    have hjl : j < M.slots.length := by omega
    obtain ⟨gS, rfl, oS, lS, kS, -⟩ := row_form m.c.s (by omega)
    obtain ⟨s, hs⟩ : ∃ s, s = slotAt M (j : Int) := ⟨_, rfl⟩
    have hst : stN f = j := by unfold stN; rw [if_neg (by omega)]; exact hj
    have hres : adSee M f = toF f (if lkK s f then 6 else 4) := by unfold adSee; rw [if_pos hat, hj, ← hs]
    rw [hres]
    have HSt : Hid (∀ (W : World), Lk w W B lo (some ⟨gS, 0, none⟩) aH aF aL cS cH cF cL M f aK cK → Calls Try.prog 149 #[.pointer (some ⟨B, 0, none⟩), .agg #[.int .i64 f.c.kind, .int .i64 f.c.a, .int .i64 f.c.b, .int .i64 f.c.time, .int .i64 f.c.bk, .int .i64 f.c.slot, .int .i64 f.pl, .int .i64 f.cur, .int .i64 f.prev, .int .i64 f.slot, .int .i64 f.n, .slice aK f.keys.length cK, .bool f.done, .int .i64 f.e]] W fun e w' => e = .returned (.tuple #[.int .i64 ((j : Int)), .bool true]) ∧ Lk w w' B lo (some ⟨gS, 0, none⟩) aH aF aL cS cH cF cL M f aK cK) := fun W h => by
      have := standsAt_any M f B _ _ _ _ cS cH cF cL aK cK W h.m.box hc1 hn1
      rw [hst, hat] at this
      exact this.mono (fun e w' h' => ⟨h'.1, h.below h'.2⟩)
    have HX : Hid (∀ W, Mine W B lo (some ⟨gS, 0, none⟩) aH aF aL cS cH cF cL M → W.cell? ⟨gS, j * 6 + 1, none⟩ = some (.int .i64 s.a) ∧ W.cell? ⟨gS, j * 6 + 2, none⟩ = some (.int .i64 s.b) ∧ W.cell? ⟨gS, j * 6 + 5, none⟩ = some (.int .i64 s.next)) := fun W m' => ⟨(slotAt_cells m'.c.s hjl hs).2.1, (slotAt_cells m'.c.s hjl hs).2.2.1, (slotAt_cells m'.c.s hjl hs).2.2.2.2.2.1⟩
    cases hk : lkK s f
    · show Calls Try.prog 115 _ w fun e w' => Ret w w' e (toF f 4) aK cK ∧ Has w' B lo (Up w (Foot B (some ⟨gS, 0, none⟩) aH aF aL)) (M) ∧ Fine w w' (Foot B (some ⟨gS, 0, none⟩) aH aF aL)
      have se : ∀ W : World, (Op.equalIn 10000 37 (.agg #[.int .i64 s.a, .int .i64 s.b]) (.agg #[.int .i64 f.c.a, .int .i64 f.c.b])).run Try.prog W = .ok false W := fun W => by rw [kequal]; exact congrArg (fun b => Result.ok b W) hk
      have HZ : Hid (∀ ad, aK = some ad → ¬ (Foot B (some ⟨gS, 0, none⟩) aH aF aL) ad.block) := hz
      obtain ⟨of, hof⟩ : ∃ o : Obj, o = .cells #[.int .i64 f.c.kind, .int .i64 f.c.a, .int .i64 f.c.b, .int .i64 f.c.time, .int .i64 f.c.bk, .int .i64 f.c.slot, .int .i64 f.pl, .int .i64 f.cur, .int .i64 f.prev, .int .i64 f.slot, .int .i64 f.n, .slice aK f.keys.length cK, .bool f.done, .int .i64 f.e] 51 := ⟨_, rfl⟩
      obtain ⟨oz, hoz⟩ : ∃ o : Obj, o = zeroFr := ⟨_, rfl⟩
      have HE : Hid (Lk w ((w.alloc of).alloc oz) B lo (some ⟨gS, 0, none⟩) aH aF aL cS cH cF cL M f aK cK) := Lk.first m f aK cK hof hoz
      obtain ⟨q0, q1, q2, q3, q4, -, -, -, -, -, qs⟩ := boxf HE.out.m.box
      obtain ⟨f0, f1, f2, f3, f4, f5, f6, f7, f8, f9, f10, f11, f12, f13, ff, fs⟩ := framef HE.out.fb
      unfold zeroFr at hoz
      clear m hc1 hn1 hcur hns hnh hM hf r hz hk hres hs hst hat h1
      go_enter Try.func115, Try.ntmps115
      go_wp2_with fail
      rw [← hof, ← hoz]
      generalize (w.alloc of).alloc oz = W0 at *
      subst hof hoz
      clear q0 q1 q2 q3 q4 qs
      clear f0 f1 f2 f3 f4 f5 f6 f7 f8 f9 f10 f11 f12 f13 ff fs
      refine (HSt.out _ (by exact HE.out.below ⟨rfl, rfl, rfl, Nat.le_refl _, fun _ _ => rfl⟩)).mono ?_
      rintro e w1 ⟨rfl, h9⟩
      have HE1 : Hid (Lk w w1 B lo (some ⟨gS, 0, none⟩) aH aF aL cS cH cF cL M f aK cK) := h9
      clear HE h9
      obtain ⟨q0, q1, q2, q3, q4, -, -, -, -, -, qs⟩ := boxf HE1.out.m.box
      obtain ⟨f0, f1, f2, f3, f4, f5, f6, f7, f8, f9, f10, f11, f12, f13, ff, fs⟩ := framef HE1.out.fb
      obtain ⟨x1, x2, x5⟩ := HX.out w1 HE1.out.m
      go_wp2_with fail
      go_quiet (fail)
      go_wp2_with fail
      have HE2 : Hid (Lk2 w (w1.drewN nq) (Foot B (some ⟨gS, 0, none⟩) aH aF aL) B lo M f aK cK) := (HE1.out.below (w2 := w1.drewN nq) ⟨rfl, rfl, rfl, Nat.le_refl _, fun _ _ => rfl⟩).two
      clear HE1 x1 x2 x5
      clear q0 q1 q2 q3 q4 qs
      refine (to_any f 4 aK cK _).mono ?_
      rintro e w9 ⟨rfl, hb9⟩
      have HE9 : Hid (Lk2 w w9 (Foot B (some ⟨gS, 0, none⟩) aH aF aL) B lo M f aK cK) := HE2.out.below hb9
      clear HE2 hb9
      clear f0 f1 f2 f3 f4 f5 f6 f7 f8 f9 f10 f11 f12 f13 ff fs
      obtain ⟨g0, g1, g2, g3, g4, g5, g6, g7, g8, g9, g10, g11, g12, g13, gf, gs⟩ := framef HE9.out.zb
      go_wp2
      refine bodyPost_ret (v := .agg #[.int .i64 (toF f 4).c.kind, .int .i64 (toF f 4).c.a, .int .i64 (toF f 4).c.b, .int .i64 (toF f 4).c.time, .int .i64 (toF f 4).c.bk, .int .i64 (toF f 4).c.slot, .int .i64 (toF f 4).pl, .int .i64 (toF f 4).cur, .int .i64 (toF f 4).prev, .int .i64 (toF f 4).slot, .int .i64 (toF f 4).n, .slice aK (toF f 4).keys.length cK, .bool (toF f 4).done, .int .i64 (toF f 4).e]) (by simp [results, Try.results115, go_sem, toF, g0, g1, g2, g3, g4, g5, g6, g7, g8, g9, g10, g11, g12, g13]) rfl ⟨⟨aK, cK, rfl, HR.out.fine HE9.out.end14.2 HZ.out, (fun ad h => .inl h), fun _ => ⟨rfl, rfl⟩⟩, HE9.out.end14⟩
    · show Calls Try.prog 115 _ w fun e w' => Ret w w' e (toF f 6) aK cK ∧ Has w' B lo (Up w (Foot B (some ⟨gS, 0, none⟩) aH aF aL)) (M) ∧ Fine w w' (Foot B (some ⟨gS, 0, none⟩) aH aF aL)
      have se : ∀ W : World, (Op.equalIn 10000 37 (.agg #[.int .i64 s.a, .int .i64 s.b]) (.agg #[.int .i64 f.c.a, .int .i64 f.c.b])).run Try.prog W = .ok true W := fun W => by rw [kequal]; exact congrArg (fun b => Result.ok b W) hk
      have HZ : Hid (∀ ad, aK = some ad → ¬ (Foot B (some ⟨gS, 0, none⟩) aH aF aL) ad.block) := hz
      obtain ⟨of, hof⟩ : ∃ o : Obj, o = .cells #[.int .i64 f.c.kind, .int .i64 f.c.a, .int .i64 f.c.b, .int .i64 f.c.time, .int .i64 f.c.bk, .int .i64 f.c.slot, .int .i64 f.pl, .int .i64 f.cur, .int .i64 f.prev, .int .i64 f.slot, .int .i64 f.n, .slice aK f.keys.length cK, .bool f.done, .int .i64 f.e] 51 := ⟨_, rfl⟩
      obtain ⟨oz, hoz⟩ : ∃ o : Obj, o = zeroFr := ⟨_, rfl⟩
      have HE : Hid (Lk w ((w.alloc of).alloc oz) B lo (some ⟨gS, 0, none⟩) aH aF aL cS cH cF cL M f aK cK) := Lk.first m f aK cK hof hoz
      obtain ⟨q0, q1, q2, q3, q4, -, -, -, -, -, qs⟩ := boxf HE.out.m.box
      obtain ⟨f0, f1, f2, f3, f4, f5, f6, f7, f8, f9, f10, f11, f12, f13, ff, fs⟩ := framef HE.out.fb
      unfold zeroFr at hoz
      clear m hc1 hn1 hcur hns hnh hM hf r hz hk hres hs hst hat h1
      go_enter Try.func115, Try.ntmps115
      go_wp2_with fail
      rw [← hof, ← hoz]
      generalize (w.alloc of).alloc oz = W0 at *
      subst hof hoz
      clear q0 q1 q2 q3 q4 qs
      clear f0 f1 f2 f3 f4 f5 f6 f7 f8 f9 f10 f11 f12 f13 ff fs
      refine (HSt.out _ (by exact HE.out.below ⟨rfl, rfl, rfl, Nat.le_refl _, fun _ _ => rfl⟩)).mono ?_
      rintro e w1 ⟨rfl, h9⟩
      have HE1 : Hid (Lk w w1 B lo (some ⟨gS, 0, none⟩) aH aF aL cS cH cF cL M f aK cK) := h9
      clear HE h9
      obtain ⟨q0, q1, q2, q3, q4, -, -, -, -, -, qs⟩ := boxf HE1.out.m.box
      obtain ⟨f0, f1, f2, f3, f4, f5, f6, f7, f8, f9, f10, f11, f12, f13, ff, fs⟩ := framef HE1.out.fb
      obtain ⟨x1, x2, x5⟩ := HX.out w1 HE1.out.m
      go_wp2_with fail
      go_quiet (fail)
      go_wp2_with fail
      have HE2 : Hid (Lk2 w (w1.drewN nq) (Foot B (some ⟨gS, 0, none⟩) aH aF aL) B lo M f aK cK) := (HE1.out.below (w2 := w1.drewN nq) ⟨rfl, rfl, rfl, Nat.le_refl _, fun _ _ => rfl⟩).two
      clear HE1 x1 x2 x5
      clear q0 q1 q2 q3 q4 qs
      refine (to_any f 6 aK cK _).mono ?_
      rintro e w9 ⟨rfl, hb9⟩
      have HE9 : Hid (Lk2 w w9 (Foot B (some ⟨gS, 0, none⟩) aH aF aL) B lo M f aK cK) := HE2.out.below hb9
      clear HE2 hb9
      clear f0 f1 f2 f3 f4 f5 f6 f7 f8 f9 f10 f11 f12 f13 ff fs
      obtain ⟨g0, g1, g2, g3, g4, g5, g6, g7, g8, g9, g10, g11, g12, g13, gf, gs⟩ := framef HE9.out.zb
      go_wp2
      refine bodyPost_ret (v := .agg #[.int .i64 (toF f 6).c.kind, .int .i64 (toF f 6).c.a, .int .i64 (toF f 6).c.b, .int .i64 (toF f 6).c.time, .int .i64 (toF f 6).c.bk, .int .i64 (toF f 6).c.slot, .int .i64 (toF f 6).pl, .int .i64 (toF f 6).cur, .int .i64 (toF f 6).prev, .int .i64 (toF f 6).slot, .int .i64 (toF f 6).n, .slice aK (toF f 6).keys.length cK, .bool (toF f 6).done, .int .i64 (toF f 6).e]) (by simp [results, Try.results115, go_sem, toF, g0, g1, g2, g3, g4, g5, g6, g7, g8, g9, g10, g11, g12, g13]) rfl ⟨⟨aK, cK, rfl, HR.out.fine HE9.out.end14.2 HZ.out, (fun ad h => .inl h), fun _ => ⟨rfl, rfl⟩⟩, HE9.out.end14⟩
  · have hat0 : isAt M f = false := by simpa using hat
    have hres : adSee M f = toF f 5 := by unfold adSee; rw [if_neg hat]
    rw [hres]
    have HSt : Hid (∀ (W : World), Lk w W B lo aS aH aF aL cS cH cF cL M f aK cK → Calls Try.prog 149 #[.pointer (some ⟨B, 0, none⟩), .agg #[.int .i64 f.c.kind, .int .i64 f.c.a, .int .i64 f.c.b, .int .i64 f.c.time, .int .i64 f.c.bk, .int .i64 f.c.slot, .int .i64 f.pl, .int .i64 f.cur, .int .i64 f.prev, .int .i64 f.slot, .int .i64 f.n, .slice aK f.keys.length cK, .bool f.done, .int .i64 f.e]] W fun e w' => e = .returned (.tuple #[.int .i64 (stN f), .bool false]) ∧ Lk w w' B lo aS aH aF aL cS cH cF cL M f aK cK) := fun W h => by
      have := standsAt_any M f B _ _ _ _ cS cH cF cL aK cK W h.m.box hc1 hn1
      rw [hat0] at this
      exact this.mono (fun e w' h' => ⟨h'.1, h.below h'.2⟩)
    have HZ : Hid (∀ ad, aK = some ad → ¬ (Foot B aS aH aF aL) ad.block) := hz
    obtain ⟨of, hof⟩ : ∃ o : Obj, o = .cells #[.int .i64 f.c.kind, .int .i64 f.c.a, .int .i64 f.c.b, .int .i64 f.c.time, .int .i64 f.c.bk, .int .i64 f.c.slot, .int .i64 f.pl, .int .i64 f.cur, .int .i64 f.prev, .int .i64 f.slot, .int .i64 f.n, .slice aK f.keys.length cK, .bool f.done, .int .i64 f.e] 51 := ⟨_, rfl⟩
    obtain ⟨oz, hoz⟩ : ∃ o : Obj, o = zeroFr := ⟨_, rfl⟩
    have HE : Hid (Lk w ((w.alloc of).alloc oz) B lo aS aH aF aL cS cH cF cL M f aK cK) := Lk.first m f aK cK hof hoz
    obtain ⟨q0, q1, q2, q3, q4, -, -, -, -, -, qs⟩ := boxf HE.out.m.box
    obtain ⟨f0, f1, f2, f3, f4, f5, f6, f7, f8, f9, f10, f11, f12, f13, ff, fs⟩ := framef HE.out.fb
    unfold zeroFr at hoz
    clear m hc1 hn1 hcur hns hnh hM hf r hz hres hat hat0
    go_enter Try.func115, Try.ntmps115
    go_wp2_with fail
    rw [← hof, ← hoz]
    generalize (w.alloc of).alloc oz = W0 at *
    subst hof hoz
    clear q0 q1 q2 q3 q4 qs
    clear f0 f1 f2 f3 f4 f5 f6 f7 f8 f9 f10 f11 f12 f13 ff fs
    refine (HSt.out _ (by exact HE.out.below ⟨rfl, rfl, rfl, Nat.le_refl _, fun _ _ => rfl⟩)).mono ?_
    rintro e w1 ⟨rfl, h9⟩
    have HE1 : Hid (Lk w w1 B lo aS aH aF aL cS cH cF cL M f aK cK) := h9
    clear HE h9
    obtain ⟨q0, q1, q2, q3, q4, -, -, -, -, -, qs⟩ := boxf HE1.out.m.box
    obtain ⟨f0, f1, f2, f3, f4, f5, f6, f7, f8, f9, f10, f11, f12, f13, ff, fs⟩ := framef HE1.out.fb
    go_wp2_with fail
    have HE2 : Hid (Lk2 w _ (Foot B aS aH aF aL) B lo M f aK cK) := HE1.out.two
    clear HE1
    clear q0 q1 q2 q3 q4 qs
    refine (to_any f 5 aK cK _).mono ?_
    rintro e w9 ⟨rfl, hb9⟩
    have HE9 : Hid (Lk2 w w9 (Foot B aS aH aF aL) B lo M f aK cK) := HE2.out.below hb9
    clear HE2 hb9
    clear f0 f1 f2 f3 f4 f5 f6 f7 f8 f9 f10 f11 f12 f13 ff fs
    obtain ⟨g0, g1, g2, g3, g4, g5, g6, g7, g8, g9, g10, g11, g12, g13, gf, gs⟩ := framef HE9.out.zb
    go_wp2
    refine bodyPost_ret (v := .agg #[.int .i64 (toF f 5).c.kind, .int .i64 (toF f 5).c.a, .int .i64 (toF f 5).c.b, .int .i64 (toF f 5).c.time, .int .i64 (toF f 5).c.bk, .int .i64 (toF f 5).c.slot, .int .i64 (toF f 5).pl, .int .i64 (toF f 5).cur, .int .i64 (toF f 5).prev, .int .i64 (toF f 5).slot, .int .i64 (toF f 5).n, .slice aK (toF f 5).keys.length cK, .bool (toF f 5).done, .int .i64 (toF f 5).e]) (by simp [results, Try.results115, go_sem, toF, g0, g1, g2, g3, g4, g5, g6, g7, g8, g9, g10, g11, g12, g13]) rfl ⟨⟨aK, cK, rfl, HR.out.fine HE9.out.end14.2 HZ.out, (fun ad h => .inl h), fun _ => ⟨rfl, rfl⟩⟩, HE9.out.end14⟩

set_option maxHeartbeats 3200000 in
theorem ad_pass (M : Mm) (f : Fr) (B lo : Nat) (aS aH aF aL : Option Addr) (cS cH cF cL : Nat) (aK : Option Addr) (cK : Nat) (w : World)
    (m : Mine w B lo aS aH aF aL cS cH cF cL M) (hM : Ok M) (hf : Fit M f) (r : KRow w aK cK f.keys) (hz : ∀ ad, aK = some ad → ¬ Foot B aS aH aF aL ad.block) :
    Calls Try.prog 116 #[.pointer (some ⟨B, 0, none⟩), .agg #[.int .i64 f.c.kind, .int .i64 f.c.a, .int .i64 f.c.b, .int .i64 f.c.time, .int .i64 f.c.bk, .int .i64 f.c.slot, .int .i64 f.pl, .int .i64 f.cur, .int .i64 f.prev, .int .i64 f.slot, .int .i64 f.n, .slice aK f.keys.length cK, .bool f.done, .int .i64 f.e]] w fun e w' => Ret w w' e (adPass M f) aK cK ∧ Has w' B lo (Up w (Foot B aS aH aF aL)) (M) ∧ Fine w w' (Foot B aS aH aF aL) := by
  have hns := hM.ns
  have hnh := hM.nh.2
  have hcur := hf.cur.2
  have hc1 : f.cur ≤ 1000 := by omega
  have hn1 : M.slots.length ≤ 1000 := by omega
  have HOk : Hid (Ok M) := hM
  have HR : Hid (KRow w aK cK f.keys) := r
  by_cases hat : isAt M f = true
  · have h1 := isAt_iff.1 hat
    obtain ⟨j, hj⟩ : ∃ j : Nat, f.cur - 1 = j := ⟨(f.cur - 1).toNat, by omega⟩
    have hjl : j < M.slots.length := by omega
    obtain ⟨gS, rfl, oS, lS, kS, -⟩ := row_form m.c.s (by omega)
    obtain ⟨s, hs⟩ : ∃ s, s = slotAt M (j : Int) := ⟨_, rfl⟩
    have hst : stN f = j := by unfold stN; rw [if_neg (by omega)]; exact hj
    have hres : adPass M f = curF f s.next 3 := by unfold adPass; rw [if_pos hat, hj, ← hs]
    rw [hres]
    have HSt : Hid (∀ (W : World), Lk w W B lo (some ⟨gS, 0, none⟩) aH aF aL cS cH cF cL M f aK cK → Calls Try.prog 149 #[.pointer (some ⟨B, 0, none⟩), .agg #[.int .i64 f.c.kind, .int .i64 f.c.a, .int .i64 f.c.b, .int .i64 f.c.time, .int .i64 f.c.bk, .int .i64 f.c.slot, .int .i64 f.pl, .int .i64 f.cur, .int .i64 f.prev, .int .i64 f.slot, .int .i64 f.n, .slice aK f.keys.length cK, .bool f.done, .int .i64 f.e]] W fun e w' => e = .returned (.tuple #[.int .i64 ((j : Int)), .bool true]) ∧ Lk w w' B lo (some ⟨gS, 0, none⟩) aH aF aL cS cH cF cL M f aK cK) := fun W h => by
      have := standsAt_any M f B _ _ _ _ cS cH cF cL aK cK W h.m.box hc1 hn1
      rw [hst, hat] at this
      exact this.mono (fun e w' h' => ⟨h'.1, h.below h'.2⟩)
    have HX : Hid (∀ W, Mine W B lo (some ⟨gS, 0, none⟩) aH aF aL cS cH cF cL M → W.cell? ⟨gS, j * 6 + 1, none⟩ = some (.int .i64 s.a) ∧ W.cell? ⟨gS, j * 6 + 2, none⟩ = some (.int .i64 s.b) ∧ W.cell? ⟨gS, j * 6 + 5, none⟩ = some (.int .i64 s.next)) := fun W m' => ⟨(slotAt_cells m'.c.s hjl hs).2.1, (slotAt_cells m'.c.s hjl hs).2.2.1, (slotAt_cells m'.c.s hjl hs).2.2.2.2.2.1⟩
    have HZ : Hid (∀ ad, aK = some ad → ¬ (Foot B (some ⟨gS, 0, none⟩) aH aF aL) ad.block) := hz
    obtain ⟨of, hof⟩ : ∃ o : Obj, o = .cells #[.int .i64 f.c.kind, .int .i64 f.c.a, .int .i64 f.c.b, .int .i64 f.c.time, .int .i64 f.c.bk, .int .i64 f.c.slot, .int .i64 f.pl, .int .i64 f.cur, .int .i64 f.prev, .int .i64 f.slot, .int .i64 f.n, .slice aK f.keys.length cK, .bool f.done, .int .i64 f.e] 51 := ⟨_, rfl⟩
    obtain ⟨oz, hoz⟩ : ∃ o : Obj, o = zeroFr := ⟨_, rfl⟩
    have HE : Hid (Lk w ((w.alloc of).alloc oz) B lo (some ⟨gS, 0, none⟩) aH aF aL cS cH cF cL M f aK cK) := Lk.first m f aK cK hof hoz
    obtain ⟨q0, q1, q2, q3, q4, -, -, -, -, -, qs⟩ := boxf HE.out.m.box
    obtain ⟨f0, f1, f2, f3, f4, f5, f6, f7, f8, f9, f10, f11, f12, f13, ff, fs⟩ := framef HE.out.fb
    unfold zeroFr at hoz
    clear m hc1 hn1 hcur hns hnh hM hf r hz hres hs hst hat h1
    go_enter Try.func116, Try.ntmps116
    go_wp2_with fail
    rw [← hof, ← hoz]
    generalize (w.alloc of).alloc oz = W0 at *
    subst hof hoz
    clear q0 q1 q2 q3 q4 qs
    clear f0 f1 f2 f3 f4 f5 f6 f7 f8 f9 f10 f11 f12 f13 ff fs
    refine (HSt.out _ (by exact HE.out.below ⟨rfl, rfl, rfl, Nat.le_refl _, fun _ _ => rfl⟩)).mono ?_
    rintro e w1 ⟨rfl, h9⟩
    have HE1 : Hid (Lk w w1 B lo (some ⟨gS, 0, none⟩) aH aF aL cS cH cF cL M f aK cK) := h9
    clear HE h9
    obtain ⟨q0, q1, q2, q3, q4, -, -, -, -, -, qs⟩ := boxf HE1.out.m.box
    obtain ⟨f0, f1, f2, f3, f4, f5, f6, f7, f8, f9, f10, f11, f12, f13, ff, fs⟩ := framef HE1.out.fb
    obtain ⟨x1, x2, x5⟩ := HX.out w1 HE1.out.m
    go_wp2_with fail
    have HE2 : Hid (Lk2 w _ (Foot B (some ⟨gS, 0, none⟩) aH aF aL) B lo M { f with cur := s.next } aK cK) := (HE1.out.store 7 (.int .i64 s.next) { f with cur := s.next } rfl).two
    clear HE1 x1 x2 x5
    clear q0 q1 q2 q3 q4 qs
    refine (to_any { f with cur := s.next } 3 aK cK _).mono ?_
    rintro e w9 ⟨rfl, hb9⟩
    have HE9 : Hid (Lk2 w w9 (Foot B (some ⟨gS, 0, none⟩) aH aF aL) B lo M { f with cur := s.next } aK cK) := HE2.out.below hb9
    clear HE2 hb9
    clear f0 f1 f2 f3 f4 f5 f6 f7 f8 f9 f10 f11 f12 f13 ff fs
    obtain ⟨g0, g1, g2, g3, g4, g5, g6, g7, g8, g9, g10, g11, g12, g13, gf, gs⟩ := framef HE9.out.zb
    go_wp2
    refine bodyPost_ret (v := .agg #[.int .i64 (curF f s.next 3).c.kind, .int .i64 (curF f s.next 3).c.a, .int .i64 (curF f s.next 3).c.b, .int .i64 (curF f s.next 3).c.time, .int .i64 (curF f s.next 3).c.bk, .int .i64 (curF f s.next 3).c.slot, .int .i64 (curF f s.next 3).pl, .int .i64 (curF f s.next 3).cur, .int .i64 (curF f s.next 3).prev, .int .i64 (curF f s.next 3).slot, .int .i64 (curF f s.next 3).n, .slice aK (curF f s.next 3).keys.length cK, .bool (curF f s.next 3).done, .int .i64 (curF f s.next 3).e]) (by simp [results, Try.results116, go_sem, curF, toF, g0, g1, g2, g3, g4, g5, g6, g7, g8, g9, g10, g11, g12, g13]) rfl ⟨⟨aK, cK, rfl, HR.out.fine HE9.out.end14.2 HZ.out, (fun ad h => .inl h), fun _ => ⟨rfl, rfl⟩⟩, HE9.out.end14⟩
  · have hat0 : isAt M f = false := by simpa using hat
    have hres : adPass M f = lateF f := by unfold adPass; rw [if_neg hat]
    rw [hres]
    have HSt : Hid (∀ (W : World), Lk w W B lo aS aH aF aL cS cH cF cL M f aK cK → Calls Try.prog 149 #[.pointer (some ⟨B, 0, none⟩), .agg #[.int .i64 f.c.kind, .int .i64 f.c.a, .int .i64 f.c.b, .int .i64 f.c.time, .int .i64 f.c.bk, .int .i64 f.c.slot, .int .i64 f.pl, .int .i64 f.cur, .int .i64 f.prev, .int .i64 f.slot, .int .i64 f.n, .slice aK f.keys.length cK, .bool f.done, .int .i64 f.e]] W fun e w' => e = .returned (.tuple #[.int .i64 (stN f), .bool false]) ∧ Lk w w' B lo aS aH aF aL cS cH cF cL M f aK cK) := fun W h => by
      have := standsAt_any M f B _ _ _ _ cS cH cF cL aK cK W h.m.box hc1 hn1
      rw [hat0] at this
      exact this.mono (fun e w' h' => ⟨h'.1, h.below h'.2⟩)
    have HZ : Hid (∀ ad, aK = some ad → ¬ (Foot B aS aH aF aL) ad.block) := hz
    obtain ⟨of, hof⟩ : ∃ o : Obj, o = .cells #[.int .i64 f.c.kind, .int .i64 f.c.a, .int .i64 f.c.b, .int .i64 f.c.time, .int .i64 f.c.bk, .int .i64 f.c.slot, .int .i64 f.pl, .int .i64 f.cur, .int .i64 f.prev, .int .i64 f.slot, .int .i64 f.n, .slice aK f.keys.length cK, .bool f.done, .int .i64 f.e] 51 := ⟨_, rfl⟩
    obtain ⟨oz, hoz⟩ : ∃ o : Obj, o = zeroFr := ⟨_, rfl⟩
    have HE : Hid (Lk w ((w.alloc of).alloc oz) B lo aS aH aF aL cS cH cF cL M f aK cK) := Lk.first m f aK cK hof hoz
    obtain ⟨q0, q1, q2, q3, q4, -, -, -, -, -, qs⟩ := boxf HE.out.m.box
    obtain ⟨f0, f1, f2, f3, f4, f5, f6, f7, f8, f9, f10, f11, f12, f13, ff, fs⟩ := framef HE.out.fb
    unfold zeroFr at hoz
    clear m hc1 hn1 hcur hns hnh hM hf r hz hres hat hat0
    go_enter Try.func116, Try.ntmps116
    go_wp2_with fail
    rw [← hof, ← hoz]
    generalize (w.alloc of).alloc oz = W0 at *
    subst hof hoz
    clear q0 q1 q2 q3 q4 qs
    clear f0 f1 f2 f3 f4 f5 f6 f7 f8 f9 f10 f11 f12 f13 ff fs
    refine (HSt.out _ (by exact HE.out.below ⟨rfl, rfl, rfl, Nat.le_refl _, fun _ _ => rfl⟩)).mono ?_
    rintro e w1 ⟨rfl, h9⟩
    have HE1 : Hid (Lk w w1 B lo aS aH aF aL cS cH cF cL M f aK cK) := h9
    clear HE h9
    obtain ⟨q0, q1, q2, q3, q4, -, -, -, -, -, qs⟩ := boxf HE1.out.m.box
    obtain ⟨f0, f1, f2, f3, f4, f5, f6, f7, f8, f9, f10, f11, f12, f13, ff, fs⟩ := framef HE1.out.fb
    go_wp2_with fail
    have HE2 : Hid (Lk2 w _ (Foot B aS aH aF aL) B lo M f aK cK) := HE1.out.two
    clear HE1
    clear q0 q1 q2 q3 q4 qs
    refine (late_any f aK cK _).mono ?_
    rintro e w9 ⟨rfl, hb9⟩
    have HE9 : Hid (Lk2 w w9 (Foot B aS aH aF aL) B lo M f aK cK) := HE2.out.below hb9
    clear HE2 hb9
    clear f0 f1 f2 f3 f4 f5 f6 f7 f8 f9 f10 f11 f12 f13 ff fs
    obtain ⟨g0, g1, g2, g3, g4, g5, g6, g7, g8, g9, g10, g11, g12, g13, gf, gs⟩ := framef HE9.out.zb
    go_wp2
    refine bodyPost_ret (v := .agg #[.int .i64 (lateF f).c.kind, .int .i64 (lateF f).c.a, .int .i64 (lateF f).c.b, .int .i64 (lateF f).c.time, .int .i64 (lateF f).c.bk, .int .i64 (lateF f).c.slot, .int .i64 (lateF f).pl, .int .i64 (lateF f).cur, .int .i64 (lateF f).prev, .int .i64 (lateF f).slot, .int .i64 (lateF f).n, .slice aK (lateF f).keys.length cK, .bool (lateF f).done, .int .i64 (lateF f).e]) (by simp [results, Try.results116, go_sem, lateF, g0, g1, g2, g3, g4, g5, g6, g7, g8, g9, g10, g11, g12, g13]) rfl ⟨⟨aK, cK, rfl, HR.out.fine HE9.out.end14.2 HZ.out, (fun ad h => .inl h), fun _ => ⟨rfl, rfl⟩⟩, HE9.out.end14⟩


end Go.Proofs.Ytdbilofhcadmoab.mm

/- A region that draws its order, by one invariant over what has come up so far: whatever order, it holds at the end. -/
namespace Go.Proofs.Ytdbilofhcadmoab.mm
open Go

theorem filter_less {l : List Nat} {p q : Nat → Bool} (hq : ∀ j, q j = true → p j = true) : (l.filter q).length ≤ (l.filter p).length := by
  induction l with
  | nil => simp
  | cons x l ih =>
    simp only [List.filter_cons]
    by_cases h : q x = true
    · rw [if_pos h, if_pos (hq x h)]
      simp only [List.length_cons]
      omega
    · rw [if_neg h]
      split
      · simp only [List.length_cons]; omega
      · exact ih

theorem filter_lt {l : List Nat} {p q : Nat → Bool} {i : Nat} (hi : i ∈ l) (hp : p i = true) (hqi : q i = false) (hq : ∀ j, q j = true → p j = true) : (l.filter q).length < (l.filter p).length := by
  induction l with
  | nil => cases hi
  | cons x l ih =>
    simp only [List.filter_cons]
    by_cases e : x = i
    · subst e
      rw [if_pos hp, if_neg (by rw [hqi]; simp)]
      have := filter_less (l := l) hq
      simp only [List.length_cons]
      omega
    · have hm : i ∈ l := by
        rcases List.mem_cons.1 hi with h | h
        · exact absurd h.symm e
        · exact h
      have := ih hm
      by_cases h : q x = true
      · rw [if_pos h, if_pos (hq x h)]
        simp only [List.length_cons]
        omega
      · rw [if_neg h]
        split
        · simp only [List.length_cons]; omega
        · exact this

/- How many have not come up. -/
def unl (ops : Array Oper) (listed : Array Bool) : Nat := ((List.range ops.size).filter fun i => !listed.getD i true).length

theorem ready_spec {md : Region.Mode} {ops : Array Oper} {listed : Array Bool} {i : Nat} (h : i ∈ Region.ready md ops listed) :
    i < ops.size ∧ listed.getD i true = false ∧ ∃ o, ops[i]? = some o ∧ ∀ e ∈ o.after, Region.binds md e = true → listed.getD e.on false = true := by
  unfold Region.ready at h
  rw [List.mem_filter] at h
  obtain ⟨h1, h2⟩ := h
  rw [Bool.and_eq_true] at h2
  refine ⟨by simpa using h1, by simpa using h2.1, ?_⟩
  cases ho : ops[i]? with
  | none => rw [ho] at h2; simp at h2
  | some o =>
    rw [ho] at h2
    refine ⟨o, rfl, fun e he hb => ?_⟩
    have h3 := h2.2
    simp only [Option.map_some, Option.getD_some] at h3
    rw [Array.all_eq_true'] at h3
    have := h3 e he
    rw [hb] at this
    simpa using this

theorem wpAny_inv {P : Program} {md : Region.Mode} {ops : Array Oper} {Q : Exit → Act → World → Prop} (J : Array Bool → Act → World → Prop)
    (step : ∀ listed a w i, i ∈ Region.ready md ops listed → J listed a w → wpOp P ops Q i (fun a' w' => J (listed.setIfInBounds i true) a' w') a w)
    (fin : ∀ listed a w, Region.ready md ops listed = [] → J listed a w → Q .normal a w) :
    ∀ (fuel : Nat) (listed : Array Bool) (a : Act) (w : World), unl ops listed ≤ fuel → listed.size = ops.size → J listed a w → wpAny P md ops Q fuel listed a w
  | 0, listed, a, w, hf, hs, hJ => by
    have hr : Region.ready md ops listed = [] := by
      cases hr : Region.ready md ops listed with
      | nil => rfl
      | cons i r =>
        have hi : i ∈ Region.ready md ops listed := by rw [hr]; simp
        obtain ⟨h1, h2, _⟩ := ready_spec hi
        have : i ∈ (List.range ops.size).filter fun i => !listed.getD i true := by
          rw [List.mem_filter]
          exact ⟨by simpa using h1, by rw [h2]; rfl⟩
        unfold unl at hf
        have hz : ((List.range ops.size).filter fun i => !listed.getD i true) = [] := List.eq_nil_of_length_eq_zero (by omega)
        rw [hz] at this
        cases this
    exact ⟨hr, fin listed a w hr hJ⟩
  | fuel + 1, listed, a, w, hf, hs, hJ => by
    refine ⟨fun hr => fin listed a w hr hJ, fun i hi => ?_⟩
    obtain ⟨h1, h2, _⟩ := ready_spec hi
    refine wpOp_mono (fun a' w' hJ' => ?_) (step listed a w i hi hJ)
    refine wpAny_inv J step fin fuel _ a' w' ?_ (by simpa using hs) hJ'
    have hlt : unl ops (listed.setIfInBounds i true) < unl ops listed := by
      unfold unl
      refine filter_lt (i := i) (by simpa using h1) (by rw [h2]; rfl) ?_ ?_
      · simp [Array.getD_eq_getD_getElem?, hs, h1]
      · intro j hj
        by_cases e : i = j
        · subst e
          rw [h2]; rfl
        · simpa [Array.getD_eq_getD_getElem?, Array.getElem?_setIfInBounds, e] using hj
    omega

/- The region itself. -/
theorem wp_region_inv {P : Program} {ops : Array Oper} {Q : Exit → Act → World → Prop} {id : Nat} {a : Act} {w : World} (hm : P.follows .mixedOrders = true) (J : Array Bool → Act → World → Prop)
    (start : J (Array.replicate ops.size false) a { w with drawn := w.drawn + 1 })
    (step : ∀ listed a w i, i ∈ Region.ready .any ops listed → J listed a w → wpOp P ops Q i (fun a' w' => J (listed.setIfInBounds i true) a' w') a w)
    (fin : ∀ listed a w, Region.ready .any ops listed = [] → J listed a w → Q .normal a w) : (Code.region id ops true).wp P Q a w := by
  refine wp_region_any hm (wpAny_inv J step fin _ _ a _ ?_ (by simp) start)
  unfold unl
  exact Nat.le_trans (List.length_filter_le _ _) (by simp)





end Go.Proofs.Ytdbilofhcadmoab.mm

/- A walk's rest, proved once. -/
namespace Go.Proofs.Ytdbilofhcadmoab.mm
theorem by_tail {G : Prop} (a : Go.Act) (R : Go.Act → Prop) (h : R a → G) (t : R a) : G := h t


end Go.Proofs.Ytdbilofhcadmoab.mm
