/- The contract of look's part prove. -/
import Derived.Test.YtdbilofhcadmoabC20
import Derived.Deep.QuietTactic
import Derived.BigQuiet
import Derived.Lib.QuietBelow
namespace Go.Proofs.Ytdbilofhcadmoab.mm
open Go.ChangeShapes Go.WideShapes Go.ChangeAt Go.RowKit Go.Joins Go.Deep Go.Sort
set_option maxRecDepth 100000
set_option linter.unusedVariables false

set_option maxHeartbeats 3200000 in
theorem prove_any (M : Mm) (f : Fr) (B lo : Nat) (aS aH aF aL : Option Addr) (cS cH cF cL : Nat) (aK : Option Addr) (cK : Nat) (w : World)
    (m : Mine w B lo aS aH aF aL cS cH cF cL M) (hM : Ok M) (hf : Fit M f) (r : KRow w aK cK f.keys) :
    Calls Try.prog 94 #[.pointer (some ⟨B, 0, none⟩), .agg #[.int .i64 f.c.kind, .int .i64 f.c.a, .int .i64 f.c.b, .int .i64 f.c.time, .int .i64 f.c.bk, .int .i64 f.c.slot, .int .i64 f.pl, .int .i64 f.cur, .int .i64 f.prev, .int .i64 f.slot, .int .i64 f.n, .slice aK f.keys.length cK, .bool f.done, .int .i64 f.e]] w fun e w' => Ret w w' e (lkProve M f) aK cK ∧ Below w.heap.size w w' := by
  have hns := hM.ns
  have HR : Hid (KRow w aK cK f.keys) := r
  have HHs : Hid (∀ W : World, Calls Try.prog 78 #[.agg #[.slice aS M.slots.length cS, .slice aH M.heads.length cH, .slice aF M.free.length cF, .slice aL M.locks.length cL, .int .i64 M.now], .int .i64 f.slot] W fun e w' => e = .returned (.bool (isSl M f.slot)) ∧ Below W.heap.size W w') := fun W => isSlot_any aS aH aF aL _ _ _ _ cS cH cF cL M.now f.slot W (by omega)
  cases hsl : isSl M f.slot
  · have hres : lkProve M f = toF f 0 := by unfold lkProve; rw [hsl]; rfl
    rw [hres]
    rw [hsl] at HHs
    obtain ⟨of, hof⟩ : ∃ o : Obj, o = .cells #[.int .i64 f.c.kind, .int .i64 f.c.a, .int .i64 f.c.b, .int .i64 f.c.time, .int .i64 f.c.bk, .int .i64 f.c.slot, .int .i64 f.pl, .int .i64 f.cur, .int .i64 f.prev, .int .i64 f.slot, .int .i64 f.n, .slice aK f.keys.length cK, .bool f.done, .int .i64 f.e] 51 := ⟨_, rfl⟩
    obtain ⟨oz, hoz⟩ : ∃ o : Obj, o = zeroFr := ⟨_, rfl⟩
    have HE : Hid (Lk w ((w.alloc of).alloc oz) B lo aS aH aF aL cS cH cF cL M f aK cK) := Lk.first m f aK cK hof hoz
    obtain ⟨q0, q1, q2, q3, q4, -, -, -, -, -, qs⟩ := boxf HE.out.m.box
    obtain ⟨f0, f1, f2, f3, f4, f5, f6, f7, f8, f9, f10, f11, f12, f13, ff, fs⟩ := framef HE.out.fb
    unfold zeroFr at hoz
    clear m hres hsl hns hM hf r
    go_enter Try.func94, Try.ntmps94
    go_wp2_with fail
    rw [← hof, ← hoz]
    generalize (w.alloc of).alloc oz = W0 at *
    subst hof hoz
    have cB : ∀ (d : Nat) (os : Array Obj), Calls Try.prog 78 #[.agg #[.slice aS M.slots.length cS, .slice aH M.heads.length cH, .slice aF M.free.length cF, .slice aL M.locks.length cL, .int .i64 M.now], .int .i64 f.slot] (grow (redrawn W0 d) os) fun e w'' => e = .returned (.bool false) ∧ ∃ p : Regrown, w'' = grow (redrawn W0 p.d) p.os := fun d os => Calls.regrown_of (HHs.out _)
    have Q0 := cell_regrown q0; have Q1 := cell_regrown q1; have Q2 := cell_regrown q2; have Q3 := cell_regrown q3; have Q4 := cell_regrown q4
    have F9 := cell_regrown f9
    clear q0 q1 q2 q3 q4 qs f0 f1 f2 f3 f4 f5 f6 f7 f8 f9 f10 f11 f12 f13 ff fs
    refine wp_region_quiet_below (by kernel_rfl) (by kernel_rfl) ?_
    repeat (quiet_step (first | exact cB _ _))
    refine wpQuiet_nil ?_
    intro _ hw'
    obtain ⟨⟨dq, osq⟩, hw''⟩ := hw'
    subst hw''
    have HB1 : Hid _ := below_regrown W0 dq osq
    generalize grow (redrawn W0 dq) osq = w1 at *
    clear cB Q0 Q1 Q2 Q3 Q4 F9
    have HE1 : Hid (Lk w w1 B lo aS aH aF aL cS cH cF cL M f aK cK) := HE.out.below HB1.out
    clear HB1 HE
    obtain ⟨q0, q1, q2, q3, q4, -, -, -, -, -, qs⟩ := boxf HE1.out.m.box
    obtain ⟨f0, f1, f2, f3, f4, f5, f6, f7, f8, f9, f10, f11, f12, f13, ff, fs⟩ := framef HE1.out.fb
    go_wp2_with fail
    refine (to_any f 0 aK cK _).mono ?_
    rintro e w9 ⟨rfl, hb9⟩
    have HE9 : Hid (Lk w w9 B lo aS aH aF aL cS cH cF cL M f aK cK) := HE1.out.below hb9
    clear HE1 hb9
    clear q0 q1 q2 q3 q4 qs f0 f1 f2 f3 f4 f5 f6 f7 f8 f9 f10 f11 f12 f13 ff fs
    obtain ⟨g0, g1, g2, g3, g4, g5, g6, g7, g8, g9, g10, g11, g12, g13, gf, gs⟩ := framef HE9.out.zb
    go_wp2
    refine bodyPost_ret (v := .agg #[.int .i64 (toF f 0).c.kind, .int .i64 (toF f 0).c.a, .int .i64 (toF f 0).c.b, .int .i64 (toF f 0).c.time, .int .i64 (toF f 0).c.bk, .int .i64 (toF f 0).c.slot, .int .i64 (toF f 0).pl, .int .i64 (toF f 0).cur, .int .i64 (toF f 0).prev, .int .i64 (toF f 0).slot, .int .i64 (toF f 0).n, .slice aK (toF f 0).keys.length cK, .bool (toF f 0).done, .int .i64 (toF f 0).e]) (by simp [results, Try.results94, go_sem, toF, g0, g1, g2, g3, g4, g5, g6, g7, g8, g9, g10, g11, g12, g13]) rfl ⟨⟨aK, cK, rfl, HR.out.below (set14 HE9.out.bl), (fun ad h => .inl h), fun _ => ⟨rfl, rfl⟩⟩, set14 HE9.out.bl⟩
  · obtain ⟨j, hj, hjl⟩ := (isSl_iff M f.slot).1 hsl
    obtain ⟨gS, rfl, oS, lS, kS, -⟩ := row_form m.c.s (by omega)
    obtain ⟨s, hs⟩ : ∃ s, s = slotAt M (j : Int) := ⟨_, rfl⟩
    rw [hsl] at HHs
    rw [hj] at HHs
    have HX : Hid (∀ W, Mine W B lo (some ⟨gS, 0, none⟩) aH aF aL cS cH cF cL M → W.cell? ⟨gS, j * 6, none⟩ = some (.int .i64 s.refs) ∧ W.cell? ⟨gS, j * 6 + 1, none⟩ = some (.int .i64 s.a) ∧ W.cell? ⟨gS, j * 6 + 2, none⟩ = some (.int .i64 s.b) ∧
      W.cell? ⟨gS, j * 6 + 3, none⟩ = some (.int .i64 s.unt) ∧ W.cell? ⟨gS, j * 6 + 4, none⟩ = some (.bool s.inn) ∧ W.cell? ⟨gS, j * 6 + 5, none⟩ = some (.int .i64 s.next) ∧ ∀ q, W.frozen? ⟨gS, q, none⟩ = false) := fun W m' => slotAt_cells m'.c.s hjl hs
    have hres : lkProve M f = if lkK s f && s.inn then (if M.now < s.unt then endF f 0 else toF f 6) else toF f 5 := by unfold lkProve; rw [hsl, hj, ← hs]; rfl
    rw [hres]
    have HJ : Hid (f.slot = j) := hj
    have se : ∀ W : World, (Op.equalIn 10000 37 (.agg #[.int .i64 s.a, .int .i64 s.b]) (.agg #[.int .i64 f.c.a, .int .i64 f.c.b])).run Try.prog W = .ok (lkK s f) W := fun W => kequal _ _ _ _ W
    obtain ⟨kk, hkk⟩ : ∃ kk, kk = lkK s f := ⟨_, rfl⟩
    obtain ⟨inn, hin⟩ : ∃ i, i = s.inn := ⟨_, rfl⟩
    rw [← hkk] at se ⊢
    rw [← hin] at HX ⊢
    have HD : Hid (inn = s.inn) := hin
    clear hres hin hkk hj hs hsl
    cases kk
    · show Calls Try.prog 94 _ w fun e w' => Ret w w' e (toF f 5) aK cK ∧ Below w.heap.size w w'
      obtain ⟨of, hof⟩ : ∃ o : Obj, o = .cells #[.int .i64 f.c.kind, .int .i64 f.c.a, .int .i64 f.c.b, .int .i64 f.c.time, .int .i64 f.c.bk, .int .i64 f.c.slot, .int .i64 f.pl, .int .i64 f.cur, .int .i64 f.prev, .int .i64 f.slot, .int .i64 f.n, .slice aK f.keys.length cK, .bool f.done, .int .i64 f.e] 51 := ⟨_, rfl⟩
      obtain ⟨oz, hoz⟩ : ∃ o : Obj, o = zeroFr := ⟨_, rfl⟩
      have HE : Hid (Lk w ((w.alloc of).alloc oz) B lo (some ⟨gS, 0, none⟩) aH aF aL cS cH cF cL M f aK cK) := Lk.first m f aK cK hof hoz
      obtain ⟨q0, q1, q2, q3, q4, -, -, -, -, -, qs⟩ := boxf HE.out.m.box
      obtain ⟨f0, f1, f2, f3, f4, f5, f6, f7, f8, f9, f10, f11, f12, f13, ff, fs⟩ := framef HE.out.fb
      unfold zeroFr at hoz
      rw [HJ.out] at f9
      clear m hns hM hf r
      go_enter Try.func94, Try.ntmps94
      go_wp2_with fail
      rw [← hof, ← hoz]
      generalize (w.alloc of).alloc oz = W0 at *
      subst hof hoz
      have cB : ∀ (d : Nat) (os : Array Obj), Calls Try.prog 78 #[.agg #[.slice (some ⟨gS, 0, none⟩) M.slots.length cS, .slice aH M.heads.length cH, .slice aF M.free.length cF, .slice aL M.locks.length cL, .int .i64 M.now], .int .i64 (j : Int)] (grow (redrawn W0 d) os) fun e w'' => e = .returned (.bool true) ∧ ∃ p : Regrown, w'' = grow (redrawn W0 p.d) p.os := fun d os => Calls.regrown_of (HHs.out _)
      have Q0 := cell_regrown q0; have Q1 := cell_regrown q1; have Q2 := cell_regrown q2; have Q3 := cell_regrown q3; have Q4 := cell_regrown q4
      have F9 := cell_regrown f9
      clear q0 q1 q2 q3 q4 qs f0 f1 f2 f3 f4 f5 f6 f7 f8 f9 f10 f11 f12 f13 ff fs
      refine wp_region_quiet_below (by kernel_rfl) (by kernel_rfl) ?_
      repeat (quiet_step (first | exact cB _ _))
      refine wpQuiet_nil ?_
      intro _ hw'
      obtain ⟨⟨dq, osq⟩, hw''⟩ := hw'
      subst hw''
      have HB1 : Hid _ := below_regrown W0 dq osq
      generalize grow (redrawn W0 dq) osq = w1 at *
      clear cB Q0 Q1 Q2 Q3 Q4 F9
      have HE1 : Hid (Lk w w1 B lo (some ⟨gS, 0, none⟩) aH aF aL cS cH cF cL M f aK cK) := HE.out.below HB1.out
      clear HB1 HE
      obtain ⟨q0, q1, q2, q3, q4, -, -, -, -, -, qs⟩ := boxf HE1.out.m.box
      obtain ⟨f0, f1, f2, f3, f4, f5, f6, f7, f8, f9, f10, f11, f12, f13, ff, fs⟩ := framef HE1.out.fb
      rw [HJ.out] at f9
      obtain ⟨x0, x1, x2, x3, x4, x5, xf⟩ := HX.out w1 HE1.out.m
      have xs : gS < w1.heap.size := cell_lt x0
      go_wp2_with fail
      go_region
      all_goals
        go_wp2_with fail
        rw [← HJ.out]
        have hb3 := one_below w1 (.cells #[.int .i64 s.refs, .int .i64 s.a, .int .i64 s.b, .int .i64 s.unt, .bool inn, .int .i64 s.next] 39)
        have HE4 : Hid (Lk w ((w1.alloc (.cells #[.int .i64 s.refs, .int .i64 s.a, .int .i64 s.b, .int .i64 s.unt, .bool inn, .int .i64 s.next] 39)).drew) B lo (some ⟨gS, 0, none⟩) aH aF aL cS cH cF cL M f aK cK) := HE1.out.below ⟨hb3.os, hb3.tape, hb3.output, hb3.size, hb3.block⟩
        clear HE1 hb3
        refine (to_any f 5 aK cK _).mono ?_
        rintro e w9 ⟨rfl, hb9⟩
        have HE9 : Hid (Lk w w9 B lo (some ⟨gS, 0, none⟩) aH aF aL cS cH cF cL M f aK cK) := HE4.out.below hb9
        clear HE4 hb9
        clear q0 q1 q2 q3 q4 qs f0 f1 f2 f3 f4 f5 f6 f7 f8 f9 f10 f11 f12 f13 ff fs
        obtain ⟨g0, g1, g2, g3, g4, g5, g6, g7, g8, g9, g10, g11, g12, g13, gf, gs⟩ := framef HE9.out.zb
        go_wp2
        refine bodyPost_ret (v := .agg #[.int .i64 (toF f 5).c.kind, .int .i64 (toF f 5).c.a, .int .i64 (toF f 5).c.b, .int .i64 (toF f 5).c.time, .int .i64 (toF f 5).c.bk, .int .i64 (toF f 5).c.slot, .int .i64 (toF f 5).pl, .int .i64 (toF f 5).cur, .int .i64 (toF f 5).prev, .int .i64 (toF f 5).slot, .int .i64 (toF f 5).n, .slice aK (toF f 5).keys.length cK, .bool (toF f 5).done, .int .i64 (toF f 5).e]) (by simp [results, Try.results94, go_sem, toF, g0, g1, g2, g3, g4, g5, g6, g7, g8, g9, g10, g11, g12, g13]) rfl ⟨⟨aK, cK, rfl, HR.out.below (set14 HE9.out.bl), (fun ad h => .inl h), fun _ => ⟨rfl, rfl⟩⟩, set14 HE9.out.bl⟩
    · cases inn
      · show Calls Try.prog 94 _ w fun e w' => Ret w w' e (toF f 5) aK cK ∧ Below w.heap.size w w'
        obtain ⟨of, hof⟩ : ∃ o : Obj, o = .cells #[.int .i64 f.c.kind, .int .i64 f.c.a, .int .i64 f.c.b, .int .i64 f.c.time, .int .i64 f.c.bk, .int .i64 f.c.slot, .int .i64 f.pl, .int .i64 f.cur, .int .i64 f.prev, .int .i64 f.slot, .int .i64 f.n, .slice aK f.keys.length cK, .bool f.done, .int .i64 f.e] 51 := ⟨_, rfl⟩
        obtain ⟨oz, hoz⟩ : ∃ o : Obj, o = zeroFr := ⟨_, rfl⟩
        have HE : Hid (Lk w ((w.alloc of).alloc oz) B lo (some ⟨gS, 0, none⟩) aH aF aL cS cH cF cL M f aK cK) := Lk.first m f aK cK hof hoz
        obtain ⟨q0, q1, q2, q3, q4, -, -, -, -, -, qs⟩ := boxf HE.out.m.box
        obtain ⟨f0, f1, f2, f3, f4, f5, f6, f7, f8, f9, f10, f11, f12, f13, ff, fs⟩ := framef HE.out.fb
        unfold zeroFr at hoz
        rw [HJ.out] at f9
        clear m hns hM hf r
        go_enter Try.func94, Try.ntmps94
        go_wp2_with fail
        rw [← hof, ← hoz]
        generalize (w.alloc of).alloc oz = W0 at *
        subst hof hoz
        have cB : ∀ (d : Nat) (os : Array Obj), Calls Try.prog 78 #[.agg #[.slice (some ⟨gS, 0, none⟩) M.slots.length cS, .slice aH M.heads.length cH, .slice aF M.free.length cF, .slice aL M.locks.length cL, .int .i64 M.now], .int .i64 (j : Int)] (grow (redrawn W0 d) os) fun e w'' => e = .returned (.bool true) ∧ ∃ p : Regrown, w'' = grow (redrawn W0 p.d) p.os := fun d os => Calls.regrown_of (HHs.out _)
        have Q0 := cell_regrown q0; have Q1 := cell_regrown q1; have Q2 := cell_regrown q2; have Q3 := cell_regrown q3; have Q4 := cell_regrown q4
        have F9 := cell_regrown f9
        clear q0 q1 q2 q3 q4 qs f0 f1 f2 f3 f4 f5 f6 f7 f8 f9 f10 f11 f12 f13 ff fs
        refine wp_region_quiet_below (by kernel_rfl) (by kernel_rfl) ?_
        repeat (quiet_step (first | exact cB _ _))
        refine wpQuiet_nil ?_
        intro _ hw'
        obtain ⟨⟨dq, osq⟩, hw''⟩ := hw'
        subst hw''
        have HB1 : Hid _ := below_regrown W0 dq osq
        generalize grow (redrawn W0 dq) osq = w1 at *
        clear cB Q0 Q1 Q2 Q3 Q4 F9
        have HE1 : Hid (Lk w w1 B lo (some ⟨gS, 0, none⟩) aH aF aL cS cH cF cL M f aK cK) := HE.out.below HB1.out
        clear HB1 HE
        obtain ⟨q0, q1, q2, q3, q4, -, -, -, -, -, qs⟩ := boxf HE1.out.m.box
        obtain ⟨f0, f1, f2, f3, f4, f5, f6, f7, f8, f9, f10, f11, f12, f13, ff, fs⟩ := framef HE1.out.fb
        rw [HJ.out] at f9
        obtain ⟨x0, x1, x2, x3, x4, x5, xf⟩ := HX.out w1 HE1.out.m
        have xs : gS < w1.heap.size := cell_lt x0
        go_wp2_with fail
        go_region
        all_goals
          go_wp2_with fail
          rw [← HJ.out]
          have hb3 := one_below w1 (.cells #[.int .i64 s.refs, .int .i64 s.a, .int .i64 s.b, .int .i64 s.unt, .bool false, .int .i64 s.next] 39)
          have HE4 : Hid (Lk w ((w1.alloc (.cells #[.int .i64 s.refs, .int .i64 s.a, .int .i64 s.b, .int .i64 s.unt, .bool false, .int .i64 s.next] 39)).drew) B lo (some ⟨gS, 0, none⟩) aH aF aL cS cH cF cL M f aK cK) := HE1.out.below ⟨hb3.os, hb3.tape, hb3.output, hb3.size, hb3.block⟩
          clear HE1 hb3
          refine (to_any f 5 aK cK _).mono ?_
          rintro e w9 ⟨rfl, hb9⟩
          have HE9 : Hid (Lk w w9 B lo (some ⟨gS, 0, none⟩) aH aF aL cS cH cF cL M f aK cK) := HE4.out.below hb9
          clear HE4 hb9
          clear q0 q1 q2 q3 q4 qs f0 f1 f2 f3 f4 f5 f6 f7 f8 f9 f10 f11 f12 f13 ff fs
          obtain ⟨g0, g1, g2, g3, g4, g5, g6, g7, g8, g9, g10, g11, g12, g13, gf, gs⟩ := framef HE9.out.zb
          go_wp2
          refine bodyPost_ret (v := .agg #[.int .i64 (toF f 5).c.kind, .int .i64 (toF f 5).c.a, .int .i64 (toF f 5).c.b, .int .i64 (toF f 5).c.time, .int .i64 (toF f 5).c.bk, .int .i64 (toF f 5).c.slot, .int .i64 (toF f 5).pl, .int .i64 (toF f 5).cur, .int .i64 (toF f 5).prev, .int .i64 (toF f 5).slot, .int .i64 (toF f 5).n, .slice aK (toF f 5).keys.length cK, .bool (toF f 5).done, .int .i64 (toF f 5).e]) (by simp [results, Try.results94, go_sem, toF, g0, g1, g2, g3, g4, g5, g6, g7, g8, g9, g10, g11, g12, g13]) rfl ⟨⟨aK, cK, rfl, HR.out.below (set14 HE9.out.bl), (fun ad h => .inl h), fun _ => ⟨rfl, rfl⟩⟩, set14 HE9.out.bl⟩
      · by_cases hu : M.now < s.unt
        · rw [if_pos hu]
          show Calls Try.prog 94 _ w fun e w' => Ret w w' e (endF f 0) aK cK ∧ Below w.heap.size w w'
          have hu1 : ¬ s.unt ≤ M.now := by omega
          obtain ⟨of, hof⟩ : ∃ o : Obj, o = .cells #[.int .i64 f.c.kind, .int .i64 f.c.a, .int .i64 f.c.b, .int .i64 f.c.time, .int .i64 f.c.bk, .int .i64 f.c.slot, .int .i64 f.pl, .int .i64 f.cur, .int .i64 f.prev, .int .i64 f.slot, .int .i64 f.n, .slice aK f.keys.length cK, .bool f.done, .int .i64 f.e] 51 := ⟨_, rfl⟩
          obtain ⟨oz, hoz⟩ : ∃ o : Obj, o = zeroFr := ⟨_, rfl⟩
          have HE : Hid (Lk w ((w.alloc of).alloc oz) B lo (some ⟨gS, 0, none⟩) aH aF aL cS cH cF cL M f aK cK) := Lk.first m f aK cK hof hoz
          obtain ⟨q0, q1, q2, q3, q4, -, -, -, -, -, qs⟩ := boxf HE.out.m.box
          obtain ⟨f0, f1, f2, f3, f4, f5, f6, f7, f8, f9, f10, f11, f12, f13, ff, fs⟩ := framef HE.out.fb
          unfold zeroFr at hoz
          rw [HJ.out] at f9
          clear m hns hM hf r
          go_enter Try.func94, Try.ntmps94
          go_wp2_with fail
          rw [← hof, ← hoz]
          generalize (w.alloc of).alloc oz = W0 at *
          subst hof hoz
          have cB : ∀ (d : Nat) (os : Array Obj), Calls Try.prog 78 #[.agg #[.slice (some ⟨gS, 0, none⟩) M.slots.length cS, .slice aH M.heads.length cH, .slice aF M.free.length cF, .slice aL M.locks.length cL, .int .i64 M.now], .int .i64 (j : Int)] (grow (redrawn W0 d) os) fun e w'' => e = .returned (.bool true) ∧ ∃ p : Regrown, w'' = grow (redrawn W0 p.d) p.os := fun d os => Calls.regrown_of (HHs.out _)
          have Q0 := cell_regrown q0; have Q1 := cell_regrown q1; have Q2 := cell_regrown q2; have Q3 := cell_regrown q3; have Q4 := cell_regrown q4
          have F9 := cell_regrown f9
          clear q0 q1 q2 q3 q4 qs f0 f1 f2 f3 f4 f5 f6 f7 f8 f9 f10 f11 f12 f13 ff fs
          refine wp_region_quiet_below (by kernel_rfl) (by kernel_rfl) ?_
          repeat (quiet_step (first | exact cB _ _))
          refine wpQuiet_nil ?_
          intro _ hw'
          obtain ⟨⟨dq, osq⟩, hw''⟩ := hw'
          subst hw''
          have HB1 : Hid _ := below_regrown W0 dq osq
          generalize grow (redrawn W0 dq) osq = w1 at *
          clear cB Q0 Q1 Q2 Q3 Q4 F9
          have HE1 : Hid (Lk w w1 B lo (some ⟨gS, 0, none⟩) aH aF aL cS cH cF cL M f aK cK) := HE.out.below HB1.out
          clear HB1 HE
          obtain ⟨q0, q1, q2, q3, q4, -, -, -, -, -, qs⟩ := boxf HE1.out.m.box
          obtain ⟨f0, f1, f2, f3, f4, f5, f6, f7, f8, f9, f10, f11, f12, f13, ff, fs⟩ := framef HE1.out.fb
          rw [HJ.out] at f9
          obtain ⟨x0, x1, x2, x3, x4, x5, xf⟩ := HX.out w1 HE1.out.m
          have xs : gS < w1.heap.size := cell_lt x0
          go_wp2_with fail
          go_region
          all_goals
            go_wp2_with fail
            go_quiet (fail)
            go_wp2_with fail
            rw [← HJ.out]
            have hb3 := one_below w1 (.cells #[.int .i64 s.refs, .int .i64 s.a, .int .i64 s.b, .int .i64 s.unt, .bool true, .int .i64 s.next] 39)
            have HE4 : Hid (Lk w ((w1.alloc (.cells #[.int .i64 s.refs, .int .i64 s.a, .int .i64 s.b, .int .i64 s.unt, .bool true, .int .i64 s.next] 39)).drewN (1 + nq)) B lo (some ⟨gS, 0, none⟩) aH aF aL cS cH cF cL M f aK cK) := HE1.out.below ⟨hb3.os, hb3.tape, hb3.output, hb3.size, hb3.block⟩
            clear HE1 hb3
            refine (endFr_hi f 0 aK cK _ (HR.out.below HE4.out.bl)).mono ?_
            rintro e w9 ⟨a9, c9, rfl, hr9, hi9, hb9⟩
            have HK9 : Hid (KRow w9 a9 c9 f.keys ∧ ∀ ad, a9 = some ad → w.heap.size + 2 ≤ ad.block) := ⟨hr9, fun ad h => Nat.le_trans (lt_of_block HE4.out.zb) (hi9 ad h)⟩
            have HE9 : Hid (Lk w w9 B lo (some ⟨gS, 0, none⟩) aH aF aL cS cH cF cL M f aK cK) := HE4.out.below hb9
            clear HE4 hb9 hr9 hi9
            clear q0 q1 q2 q3 q4 qs f0 f1 f2 f3 f4 f5 f6 f7 f8 f9 f10 f11 f12 f13 ff fs
            obtain ⟨g0, g1, g2, g3, g4, g5, g6, g7, g8, g9, g10, g11, g12, g13, gf, gs⟩ := framef HE9.out.zb
            go_wp2
            refine bodyPost_ret (v := .agg #[.int .i64 (endF f 0).c.kind, .int .i64 (endF f 0).c.a, .int .i64 (endF f 0).c.b, .int .i64 (endF f 0).c.time, .int .i64 (endF f 0).c.bk, .int .i64 (endF f 0).c.slot, .int .i64 (endF f 0).pl, .int .i64 (endF f 0).cur, .int .i64 (endF f 0).prev, .int .i64 (endF f 0).slot, .int .i64 (endF f 0).n, .slice a9 (endF f 0).keys.length c9, .bool (endF f 0).done, .int .i64 (endF f 0).e]) (by simp [results, Try.results94, go_sem, endF, g0, g1, g2, g3, g4, g5, g6, g7, g8, g9, g10, g11, g12, g13]) rfl ⟨⟨a9, c9, rfl, krow14 HK9.out.1 HK9.out.2, (fun ad h => .inr (by have := HK9.out.2 ad h; omega)), fun h => by cases h⟩, set14 HE9.out.bl⟩
        · rw [if_neg hu]
          show Calls Try.prog 94 _ w fun e w' => Ret w w' e (toF f 6) aK cK ∧ Below w.heap.size w w'
          have hu1 : s.unt ≤ M.now := by omega
          obtain ⟨of, hof⟩ : ∃ o : Obj, o = .cells #[.int .i64 f.c.kind, .int .i64 f.c.a, .int .i64 f.c.b, .int .i64 f.c.time, .int .i64 f.c.bk, .int .i64 f.c.slot, .int .i64 f.pl, .int .i64 f.cur, .int .i64 f.prev, .int .i64 f.slot, .int .i64 f.n, .slice aK f.keys.length cK, .bool f.done, .int .i64 f.e] 51 := ⟨_, rfl⟩
          obtain ⟨oz, hoz⟩ : ∃ o : Obj, o = zeroFr := ⟨_, rfl⟩
          have HE : Hid (Lk w ((w.alloc of).alloc oz) B lo (some ⟨gS, 0, none⟩) aH aF aL cS cH cF cL M f aK cK) := Lk.first m f aK cK hof hoz
          obtain ⟨q0, q1, q2, q3, q4, -, -, -, -, -, qs⟩ := boxf HE.out.m.box
          obtain ⟨f0, f1, f2, f3, f4, f5, f6, f7, f8, f9, f10, f11, f12, f13, ff, fs⟩ := framef HE.out.fb
          unfold zeroFr at hoz
          rw [HJ.out] at f9
          clear m hns hM hf r
          go_enter Try.func94, Try.ntmps94
          go_wp2_with fail
          rw [← hof, ← hoz]
          generalize (w.alloc of).alloc oz = W0 at *
          subst hof hoz
          have cB : ∀ (d : Nat) (os : Array Obj), Calls Try.prog 78 #[.agg #[.slice (some ⟨gS, 0, none⟩) M.slots.length cS, .slice aH M.heads.length cH, .slice aF M.free.length cF, .slice aL M.locks.length cL, .int .i64 M.now], .int .i64 (j : Int)] (grow (redrawn W0 d) os) fun e w'' => e = .returned (.bool true) ∧ ∃ p : Regrown, w'' = grow (redrawn W0 p.d) p.os := fun d os => Calls.regrown_of (HHs.out _)
          have Q0 := cell_regrown q0; have Q1 := cell_regrown q1; have Q2 := cell_regrown q2; have Q3 := cell_regrown q3; have Q4 := cell_regrown q4
          have F9 := cell_regrown f9
          clear q0 q1 q2 q3 q4 qs f0 f1 f2 f3 f4 f5 f6 f7 f8 f9 f10 f11 f12 f13 ff fs
          refine wp_region_quiet_below (by kernel_rfl) (by kernel_rfl) ?_
          repeat (quiet_step (first | exact cB _ _))
          refine wpQuiet_nil ?_
          intro _ hw'
          obtain ⟨⟨dq, osq⟩, hw''⟩ := hw'
          subst hw''
          have HB1 : Hid _ := below_regrown W0 dq osq
          generalize grow (redrawn W0 dq) osq = w1 at *
          clear cB Q0 Q1 Q2 Q3 Q4 F9
          have HE1 : Hid (Lk w w1 B lo (some ⟨gS, 0, none⟩) aH aF aL cS cH cF cL M f aK cK) := HE.out.below HB1.out
          clear HB1 HE
          obtain ⟨q0, q1, q2, q3, q4, -, -, -, -, -, qs⟩ := boxf HE1.out.m.box
          obtain ⟨f0, f1, f2, f3, f4, f5, f6, f7, f8, f9, f10, f11, f12, f13, ff, fs⟩ := framef HE1.out.fb
          rw [HJ.out] at f9
          obtain ⟨x0, x1, x2, x3, x4, x5, xf⟩ := HX.out w1 HE1.out.m
          have xs : gS < w1.heap.size := cell_lt x0
          go_wp2_with fail
          go_region
          all_goals
            go_wp2_with fail
            go_quiet (fail)
            go_wp2_with fail
            rw [← HJ.out]
            have hb3 := one_below w1 (.cells #[.int .i64 s.refs, .int .i64 s.a, .int .i64 s.b, .int .i64 s.unt, .bool true, .int .i64 s.next] 39)
            have HE4 : Hid (Lk w ((w1.alloc (.cells #[.int .i64 s.refs, .int .i64 s.a, .int .i64 s.b, .int .i64 s.unt, .bool true, .int .i64 s.next] 39)).drewN (1 + nq)) B lo (some ⟨gS, 0, none⟩) aH aF aL cS cH cF cL M f aK cK) := HE1.out.below ⟨hb3.os, hb3.tape, hb3.output, hb3.size, hb3.block⟩
            clear HE1 hb3
            refine (to_any f 6 aK cK _).mono ?_
            rintro e w9 ⟨rfl, hb9⟩
            have HE9 : Hid (Lk w w9 B lo (some ⟨gS, 0, none⟩) aH aF aL cS cH cF cL M f aK cK) := HE4.out.below hb9
            clear HE4 hb9
            clear q0 q1 q2 q3 q4 qs f0 f1 f2 f3 f4 f5 f6 f7 f8 f9 f10 f11 f12 f13 ff fs
            obtain ⟨g0, g1, g2, g3, g4, g5, g6, g7, g8, g9, g10, g11, g12, g13, gf, gs⟩ := framef HE9.out.zb
            go_wp2
            refine bodyPost_ret (v := .agg #[.int .i64 (toF f 6).c.kind, .int .i64 (toF f 6).c.a, .int .i64 (toF f 6).c.b, .int .i64 (toF f 6).c.time, .int .i64 (toF f 6).c.bk, .int .i64 (toF f 6).c.slot, .int .i64 (toF f 6).pl, .int .i64 (toF f 6).cur, .int .i64 (toF f 6).prev, .int .i64 (toF f 6).slot, .int .i64 (toF f 6).n, .slice aK (toF f 6).keys.length cK, .bool (toF f 6).done, .int .i64 (toF f 6).e]) (by simp [results, Try.results94, go_sem, toF, g0, g1, g2, g3, g4, g5, g6, g7, g8, g9, g10, g11, g12, g13]) rfl ⟨⟨aK, cK, rfl, HR.out.below (set14 HE9.out.bl), (fun ad h => .inl h), fun _ => ⟨rfl, rfl⟩⟩, set14 HE9.out.bl⟩


end Go.Proofs.Ytdbilofhcadmoab.mm
