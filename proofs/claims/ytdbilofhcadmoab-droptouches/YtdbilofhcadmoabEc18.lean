/- The contract of drop's part see. -/
import Derived.Test.YtdbilofhcadmoabEc13
import Derived.Test.YtdbilofhcadmoabEc12
import Derived.Deep.QuietTactic
import Derived.BigQuiet
import Derived.BigRegion
import Derived.Lib.QuietBelow
import Derived.Test.YtdbilofhcadmoabEc16
import Derived.Test.YtdbilofhcadmoabEc17
namespace Go.Proofs.Ytdbilofhcadmoab.mm
open Go.ChangeShapes Go.WideShapes Go.ChangeAt Go.RowKit Go.Joins Go.Deep Go.Sort
set_option maxRecDepth 100000
set_option linter.unusedVariables false


set_option maxHeartbeats 3200000 in
theorem dr_see (M : Mm) (f : Fr) (B lo : Nat) (aS aH aF aL : Option Addr) (cS cH cF cL : Nat) (aK : Option Addr) (cK : Nat) (w : World)
    (m : Mine w B lo aS aH aF aL cS cH cF cL M) (hM : Ok M) (hf : Fit M f) (r : KRow w aK cK f.keys) (hz : ∀ ad, aK = some ad → ¬ Foot B aS aH aF aL ad.block) :
    Calls Try.prog 131 #[.pointer (some ⟨B, 0, none⟩), .agg #[.int .i64 f.c.kind, .int .i64 f.c.a, .int .i64 f.c.b, .int .i64 f.c.time, .int .i64 f.c.bk, .int .i64 f.c.slot, .int .i64 f.pl, .int .i64 f.cur, .int .i64 f.prev, .int .i64 f.slot, .int .i64 f.n, .slice aK f.keys.length cK, .bool f.done, .int .i64 f.e]] w fun e w' => Ret w w' e (drSee M f) aK cK ∧ Has w' B lo (Up w (Foot B aS aH aF aL)) (M) ∧ Fine w w' (Foot B aS aH aF aL) := by
  have hns := hM.ns
  have hnh := hM.nh.2
  have hcur := hf.cur.2
  have hc1 : f.cur ≤ 1000 := by omega
  have hn1 : M.slots.length ≤ 1000 := by omega
  have HOk : Hid (Ok M) := hM
  have HR : Hid (KRow w aK cK f.keys) := r
  by_cases hat : isAt M f = true
  · have h1 := isAt_iff.1 hat
    obtain ⟨j, hj⟩ : ∃ j : Nat, f.cur - 1 = j := ⟨(f.cur - 1).toNat, by omega⟩
    have hjl : j < M.slots.length := by omega
    obtain ⟨gS, rfl, oS, lS, kS, -⟩ := row_form m.c.s (by omega)
    obtain ⟨s, hs⟩ : ∃ s, s = slotAt M (j : Int) := ⟨_, rfl⟩
    have hst : stN f = j := by unfold stN; rw [if_neg (by omega)]; exact hj
    have hres : drSee M f = toF f (if lkK s f then 4 else 3) := by unfold drSee; rw [if_pos hat, hj, ← hs]
    rw [hres]
    have HSt : Hid (∀ (W : World), Lk w W B lo (some ⟨gS, 0, none⟩) aH aF aL cS cH cF cL M f aK cK → Calls Try.prog 149 #[.pointer (some ⟨B, 0, none⟩), .agg #[.int .i64 f.c.kind, .int .i64 f.c.a, .int .i64 f.c.b, .int .i64 f.c.time, .int .i64 f.c.bk, .int .i64 f.c.slot, .int .i64 f.pl, .int .i64 f.cur, .int .i64 f.prev, .int .i64 f.slot, .int .i64 f.n, .slice aK f.keys.length cK, .bool f.done, .int .i64 f.e]] W fun e w' => e = .returned (.tuple #[.int .i64 ((j : Int)), .bool true]) ∧ Lk w w' B lo (some ⟨gS, 0, none⟩) aH aF aL cS cH cF cL M f aK cK) := fun W h => by
      have := standsAt_any M f B _ _ _ _ cS cH cF cL aK cK W h.m.box hc1 hn1
      rw [hst, hat] at this
      exact this.mono (fun e w' h' => ⟨h'.1, h.below h'.2⟩)
    have HX : Hid (∀ W, Mine W B lo (some ⟨gS, 0, none⟩) aH aF aL cS cH cF cL M → W.cell? ⟨gS, j * 6 + 1, none⟩ = some (.int .i64 s.a) ∧ W.cell? ⟨gS, j * 6 + 2, none⟩ = some (.int .i64 s.b) ∧ W.cell? ⟨gS, j * 6 + 5, none⟩ = some (.int .i64 s.next)) := fun W m' => ⟨(slotAt_cells m'.c.s hjl hs).2.1, (slotAt_cells m'.c.s hjl hs).2.2.1, (slotAt_cells m'.c.s hjl hs).2.2.2.2.2.1⟩
    cases hk : lkK s f
    · show Calls Try.prog 131 _ w fun e w' => Ret w w' e (toF f 3) aK cK ∧ Has w' B lo (Up w (Foot B (some ⟨gS, 0, none⟩) aH aF aL)) (M) ∧ Fine w w' (Foot B (some ⟨gS, 0, none⟩) aH aF aL)
      have se : ∀ W : World, (Op.equalIn 10000 37 (.agg #[.int .i64 s.a, .int .i64 s.b]) (.agg #[.int .i64 f.c.a, .int .i64 f.c.b])).run Try.prog W = .ok false W := fun W => by rw [kequal]; exact congrArg (fun b => Result.ok b W) hk
      have HZ : Hid (∀ ad, aK = some ad → ¬ (Foot B (some ⟨gS, 0, none⟩) aH aF aL) ad.block) := hz
      obtain ⟨of, hof⟩ : ∃ o : Obj, o = .cells #[.int .i64 f.c.kind, .int .i64 f.c.a, .int .i64 f.c.b, .int .i64 f.c.time, .int .i64 f.c.bk, .int .i64 f.c.slot, .int .i64 f.pl, .int .i64 f.cur, .int .i64 f.prev, .int .i64 f.slot, .int .i64 f.n, .slice aK f.keys.length cK, .bool f.done, .int .i64 f.e] 51 := ⟨_, rfl⟩
      obtain ⟨oz, hoz⟩ : ∃ o : Obj, o = zeroFr := ⟨_, rfl⟩
      have HE : Hid (Lk w ((w.alloc of).alloc oz) B lo (some ⟨gS, 0, none⟩) aH aF aL cS cH cF cL M f aK cK) := Lk.first m f aK cK hof hoz
      obtain ⟨q0, q1, q2, q3, q4, -, -, -, -, -, qs⟩ := boxf HE.out.m.box
      obtain ⟨f0, f1, f2, f3, f4, f5, f6, f7, f8, f9, f10, f11, f12, f13, ff, fs⟩ := framef HE.out.fb
      unfold zeroFr at hoz
      clear m hc1 hn1 hcur hns hnh hM hf r hz hk hres hs hst hat h1
      go_enter Try.func131, Try.ntmps131
      go_wp2_with fail
      rw [← hof, ← hoz]
      generalize (w.alloc of).alloc oz = W0 at *
      subst hof hoz
      clear q0 q1 q2 q3 q4 qs
      clear f0 f1 f2 f3 f4 f5 f6 f7 f8 f9 f10 f11 f12 f13 ff fs
      refine (HSt.out _ (by exact HE.out.below ⟨rfl, rfl, rfl, Nat.le_refl _, fun _ _ => rfl⟩)).mono ?_
      rintro e w1 ⟨rfl, h9⟩
      have HE1 : Hid (Lk w w1 B lo (some ⟨gS, 0, none⟩) aH aF aL cS cH cF cL M f aK cK) := h9
      clear HE h9
      obtain ⟨q0, q1, q2, q3, q4, -, -, -, -, -, qs⟩ := boxf HE1.out.m.box
      obtain ⟨f0, f1, f2, f3, f4, f5, f6, f7, f8, f9, f10, f11, f12, f13, ff, fs⟩ := framef HE1.out.fb
      obtain ⟨x1, x2, x5⟩ := HX.out w1 HE1.out.m
      go_wp2_with fail
      go_quiet (fail)
      go_wp2_with fail
      have HE2 : Hid (Lk2 w (w1.drewN nq) (Foot B (some ⟨gS, 0, none⟩) aH aF aL) B lo M f aK cK) := (HE1.out.below (w2 := w1.drewN nq) ⟨rfl, rfl, rfl, Nat.le_refl _, fun _ _ => rfl⟩).two
      clear HE1 x1 x2 x5
      clear q0 q1 q2 q3 q4 qs
      refine (to_any f 3 aK cK _).mono ?_
      rintro e w9 ⟨rfl, hb9⟩
      have HE9 : Hid (Lk2 w w9 (Foot B (some ⟨gS, 0, none⟩) aH aF aL) B lo M f aK cK) := HE2.out.below hb9
      clear HE2 hb9
      clear f0 f1 f2 f3 f4 f5 f6 f7 f8 f9 f10 f11 f12 f13 ff fs
      obtain ⟨g0, g1, g2, g3, g4, g5, g6, g7, g8, g9, g10, g11, g12, g13, gf, gs⟩ := framef HE9.out.zb
      go_wp2
      refine bodyPost_ret (v := .agg #[.int .i64 (toF f 3).c.kind, .int .i64 (toF f 3).c.a, .int .i64 (toF f 3).c.b, .int .i64 (toF f 3).c.time, .int .i64 (toF f 3).c.bk, .int .i64 (toF f 3).c.slot, .int .i64 (toF f 3).pl, .int .i64 (toF f 3).cur, .int .i64 (toF f 3).prev, .int .i64 (toF f 3).slot, .int .i64 (toF f 3).n, .slice aK (toF f 3).keys.length cK, .bool (toF f 3).done, .int .i64 (toF f 3).e]) (by simp [results, Try.results131, go_sem, toF, g0, g1, g2, g3, g4, g5, g6, g7, g8, g9, g10, g11, g12, g13]) rfl ⟨⟨aK, cK, rfl, HR.out.fine HE9.out.end14.2 HZ.out, (fun ad h => .inl h), fun _ => ⟨rfl, rfl⟩⟩, HE9.out.end14⟩
    · show Calls Try.prog 131 _ w fun e w' => Ret w w' e (toF f 4) aK cK ∧ Has w' B lo (Up w (Foot B (some ⟨gS, 0, none⟩) aH aF aL)) (M) ∧ Fine w w' (Foot B (some ⟨gS, 0, none⟩) aH aF aL)
      have se : ∀ W : World, (Op.equalIn 10000 37 (.agg #[.int .i64 s.a, .int .i64 s.b]) (.agg #[.int .i64 f.c.a, .int .i64 f.c.b])).run Try.prog W = .ok true W := fun W => by rw [kequal]; exact congrArg (fun b => Result.ok b W) hk
      have HZ : Hid (∀ ad, aK = some ad → ¬ (Foot B (some ⟨gS, 0, none⟩) aH aF aL) ad.block) := hz
      obtain ⟨of, hof⟩ : ∃ o : Obj, o = .cells #[.int .i64 f.c.kind, .int .i64 f.c.a, .int .i64 f.c.b, .int .i64 f.c.time, .int .i64 f.c.bk, .int .i64 f.c.slot, .int .i64 f.pl, .int .i64 f.cur, .int .i64 f.prev, .int .i64 f.slot, .int .i64 f.n, .slice aK f.keys.length cK, .bool f.done, .int .i64 f.e] 51 := ⟨_, rfl⟩
      obtain ⟨oz, hoz⟩ : ∃ o : Obj, o = zeroFr := ⟨_, rfl⟩
      have HE : Hid (Lk w ((w.alloc of).alloc oz) B lo (some ⟨gS, 0, none⟩) aH aF aL cS cH cF cL M f aK cK) := Lk.first m f aK cK hof hoz
      obtain ⟨q0, q1, q2, q3, q4, -, -, -, -, -, qs⟩ := boxf HE.out.m.box
      obtain ⟨f0, f1, f2, f3, f4, f5, f6, f7, f8, f9, f10, f11, f12, f13, ff, fs⟩ := framef HE.out.fb
      unfold zeroFr at hoz
      clear m hc1 hn1 hcur hns hnh hM hf r hz hk hres hs hst hat h1
      go_enter Try.func131, Try.ntmps131
      go_wp2_with fail
      rw [← hof, ← hoz]
      generalize (w.alloc of).alloc oz = W0 at *
      subst hof hoz
      clear q0 q1 q2 q3 q4 qs
      clear f0 f1 f2 f3 f4 f5 f6 f7 f8 f9 f10 f11 f12 f13 ff fs
      refine (HSt.out _ (by exact HE.out.below ⟨rfl, rfl, rfl, Nat.le_refl _, fun _ _ => rfl⟩)).mono ?_
      rintro e w1 ⟨rfl, h9⟩
      have HE1 : Hid (Lk w w1 B lo (some ⟨gS, 0, none⟩) aH aF aL cS cH cF cL M f aK cK) := h9
      clear HE h9
      obtain ⟨q0, q1, q2, q3, q4, -, -, -, -, -, qs⟩ := boxf HE1.out.m.box
      obtain ⟨f0, f1, f2, f3, f4, f5, f6, f7, f8, f9, f10, f11, f12, f13, ff, fs⟩ := framef HE1.out.fb
      obtain ⟨x1, x2, x5⟩ := HX.out w1 HE1.out.m
      go_wp2_with fail
      go_quiet (fail)
      go_wp2_with fail
      have HE2 : Hid (Lk2 w (w1.drewN nq) (Foot B (some ⟨gS, 0, none⟩) aH aF aL) B lo M f aK cK) := (HE1.out.below (w2 := w1.drewN nq) ⟨rfl, rfl, rfl, Nat.le_refl _, fun _ _ => rfl⟩).two
      clear HE1 x1 x2 x5
      clear q0 q1 q2 q3 q4 qs
      refine (to_any f 4 aK cK _).mono ?_
      rintro e w9 ⟨rfl, hb9⟩
      have HE9 : Hid (Lk2 w w9 (Foot B (some ⟨gS, 0, none⟩) aH aF aL) B lo M f aK cK) := HE2.out.below hb9
      clear HE2 hb9
      clear f0 f1 f2 f3 f4 f5 f6 f7 f8 f9 f10 f11 f12 f13 ff fs
      obtain ⟨g0, g1, g2, g3, g4, g5, g6, g7, g8, g9, g10, g11, g12, g13, gf, gs⟩ := framef HE9.out.zb
      go_wp2
      refine bodyPost_ret (v := .agg #[.int .i64 (toF f 4).c.kind, .int .i64 (toF f 4).c.a, .int .i64 (toF f 4).c.b, .int .i64 (toF f 4).c.time, .int .i64 (toF f 4).c.bk, .int .i64 (toF f 4).c.slot, .int .i64 (toF f 4).pl, .int .i64 (toF f 4).cur, .int .i64 (toF f 4).prev, .int .i64 (toF f 4).slot, .int .i64 (toF f 4).n, .slice aK (toF f 4).keys.length cK, .bool (toF f 4).done, .int .i64 (toF f 4).e]) (by simp [results, Try.results131, go_sem, toF, g0, g1, g2, g3, g4, g5, g6, g7, g8, g9, g10, g11, g12, g13]) rfl ⟨⟨aK, cK, rfl, HR.out.fine HE9.out.end14.2 HZ.out, (fun ad h => .inl h), fun _ => ⟨rfl, rfl⟩⟩, HE9.out.end14⟩
  · have hat0 : isAt M f = false := by simpa using hat
    have hres : drSee M f = errF f 5 5 := by unfold drSee; rw [if_neg hat]
    rw [hres]
    have HSt : Hid (∀ (W : World), Lk w W B lo aS aH aF aL cS cH cF cL M f aK cK → Calls Try.prog 149 #[.pointer (some ⟨B, 0, none⟩), .agg #[.int .i64 f.c.kind, .int .i64 f.c.a, .int .i64 f.c.b, .int .i64 f.c.time, .int .i64 f.c.bk, .int .i64 f.c.slot, .int .i64 f.pl, .int .i64 f.cur, .int .i64 f.prev, .int .i64 f.slot, .int .i64 f.n, .slice aK f.keys.length cK, .bool f.done, .int .i64 f.e]] W fun e w' => e = .returned (.tuple #[.int .i64 (stN f), .bool false]) ∧ Lk w w' B lo aS aH aF aL cS cH cF cL M f aK cK) := fun W h => by
      have := standsAt_any M f B _ _ _ _ cS cH cF cL aK cK W h.m.box hc1 hn1
      rw [hat0] at this
      exact this.mono (fun e w' h' => ⟨h'.1, h.below h'.2⟩)
    have HZ : Hid (∀ ad, aK = some ad → ¬ (Foot B aS aH aF aL) ad.block) := hz
    obtain ⟨of, hof⟩ : ∃ o : Obj, o = .cells #[.int .i64 f.c.kind, .int .i64 f.c.a, .int .i64 f.c.b, .int .i64 f.c.time, .int .i64 f.c.bk, .int .i64 f.c.slot, .int .i64 f.pl, .int .i64 f.cur, .int .i64 f.prev, .int .i64 f.slot, .int .i64 f.n, .slice aK f.keys.length cK, .bool f.done, .int .i64 f.e] 51 := ⟨_, rfl⟩
    obtain ⟨oz, hoz⟩ : ∃ o : Obj, o = zeroFr := ⟨_, rfl⟩
    have HE : Hid (Lk w ((w.alloc of).alloc oz) B lo aS aH aF aL cS cH cF cL M f aK cK) := Lk.first m f aK cK hof hoz
    obtain ⟨q0, q1, q2, q3, q4, -, -, -, -, -, qs⟩ := boxf HE.out.m.box
    obtain ⟨f0, f1, f2, f3, f4, f5, f6, f7, f8, f9, f10, f11, f12, f13, ff, fs⟩ := framef HE.out.fb
    unfold zeroFr at hoz
    clear m hc1 hn1 hcur hns hnh hM hf r hz hres hat hat0
    go_enter Try.func131, Try.ntmps131
    go_wp2_with fail
    rw [← hof, ← hoz]
    generalize (w.alloc of).alloc oz = W0 at *
    subst hof hoz
    clear q0 q1 q2 q3 q4 qs
    clear f0 f1 f2 f3 f4 f5 f6 f7 f8 f9 f10 f11 f12 f13 ff fs
    refine (HSt.out _ (by exact HE.out.below ⟨rfl, rfl, rfl, Nat.le_refl _, fun _ _ => rfl⟩)).mono ?_
    rintro e w1 ⟨rfl, h9⟩
    have HE1 : Hid (Lk w w1 B lo aS aH aF aL cS cH cF cL M f aK cK) := h9
    clear HE h9
    obtain ⟨q0, q1, q2, q3, q4, -, -, -, -, -, qs⟩ := boxf HE1.out.m.box
    obtain ⟨f0, f1, f2, f3, f4, f5, f6, f7, f8, f9, f10, f11, f12, f13, ff, fs⟩ := framef HE1.out.fb
    go_wp2_with fail
    have HE2 : Hid (Lk2 w _ (Foot B aS aH aF aL) B lo M { f with e := 5 } aK cK) := (HE1.out.store 13 (.int .i64 5) { f with e := 5 } rfl).two
    clear HE1
    clear q0 q1 q2 q3 q4 qs
    refine (to_any { f with e := 5 } 5 aK cK _).mono ?_
    rintro e w9 ⟨rfl, hb9⟩
    have HE9 : Hid (Lk2 w w9 (Foot B aS aH aF aL) B lo M { f with e := 5 } aK cK) := HE2.out.below hb9
    clear HE2 hb9
    clear f0 f1 f2 f3 f4 f5 f6 f7 f8 f9 f10 f11 f12 f13 ff fs
    obtain ⟨g0, g1, g2, g3, g4, g5, g6, g7, g8, g9, g10, g11, g12, g13, gf, gs⟩ := framef HE9.out.zb
    go_wp2
    refine bodyPost_ret (v := .agg #[.int .i64 (errF f 5 5).c.kind, .int .i64 (errF f 5 5).c.a, .int .i64 (errF f 5 5).c.b, .int .i64 (errF f 5 5).c.time, .int .i64 (errF f 5 5).c.bk, .int .i64 (errF f 5 5).c.slot, .int .i64 (errF f 5 5).pl, .int .i64 (errF f 5 5).cur, .int .i64 (errF f 5 5).prev, .int .i64 (errF f 5 5).slot, .int .i64 (errF f 5 5).n, .slice aK (errF f 5 5).keys.length cK, .bool (errF f 5 5).done, .int .i64 (errF f 5 5).e]) (by simp [results, Try.results131, go_sem, errF, toF, g0, g1, g2, g3, g4, g5, g6, g7, g8, g9, g10, g11, g12, g13]) rfl ⟨⟨aK, cK, rfl, HR.out.fine HE9.out.end14.2 HZ.out, (fun ad h => .inl h), fun _ => ⟨rfl, rfl⟩⟩, HE9.out.end14⟩

end Go.Proofs.Ytdbilofhcadmoab.mm

/- The contract of drop's part pass. -/
namespace Go.Proofs.Ytdbilofhcadmoab.mm
open Go.ChangeShapes Go.WideShapes Go.ChangeAt Go.RowKit Go.Joins Go.Deep Go.Sort
set_option maxRecDepth 100000
set_option linter.unusedVariables false

set_option maxHeartbeats 3200000 in
theorem dr_pass (M : Mm) (f : Fr) (B lo : Nat) (aS aH aF aL : Option Addr) (cS cH cF cL : Nat) (aK : Option Addr) (cK : Nat) (w : World)
    (m : Mine w B lo aS aH aF aL cS cH cF cL M) (hM : Ok M) (hf : Fit M f) (r : KRow w aK cK f.keys) (hz : ∀ ad, aK = some ad → ¬ Foot B aS aH aF aL ad.block) :
    Calls Try.prog 132 #[.pointer (some ⟨B, 0, none⟩), .agg #[.int .i64 f.c.kind, .int .i64 f.c.a, .int .i64 f.c.b, .int .i64 f.c.time, .int .i64 f.c.bk, .int .i64 f.c.slot, .int .i64 f.pl, .int .i64 f.cur, .int .i64 f.prev, .int .i64 f.slot, .int .i64 f.n, .slice aK f.keys.length cK, .bool f.done, .int .i64 f.e]] w fun e w' => Ret w w' e (drPass M f) aK cK ∧ Has w' B lo (Up w (Foot B aS aH aF aL)) (M) ∧ Fine w w' (Foot B aS aH aF aL) := by
  have hns := hM.ns
  have hnh := hM.nh.2
  have hcur := hf.cur.2
  have hc1 : f.cur ≤ 1000 := by omega
  have hn1 : M.slots.length ≤ 1000 := by omega
  have HOk : Hid (Ok M) := hM
  have HR : Hid (KRow w aK cK f.keys) := r
  by_cases hat : isAt M f = true
  · obtain ⟨g, hg⟩ : ∃ g : Fr, g = { f with prev := f.cur, cur := (slotAt M (f.cur - 1)).next } := ⟨_, rfl⟩
    have hres : drPass M f = toF g 2 := by unfold drPass; rw [if_pos hat, hg]; rfl
    have hkeys : g.keys = f.keys := by rw [hg]
    rw [hres]
    have HOn : Hid (∀ W : World, Lk w W B lo aS aH aF aL cS cH cF cL M f aK cK → Calls Try.prog 158 #[.pointer (some ⟨B, 0, none⟩), .agg #[.int .i64 f.c.kind, .int .i64 f.c.a, .int .i64 f.c.b, .int .i64 f.c.time, .int .i64 f.c.bk, .int .i64 f.c.slot, .int .i64 f.pl, .int .i64 f.cur, .int .i64 f.prev, .int .i64 f.slot, .int .i64 f.n, .slice aK f.keys.length cK, .bool f.done, .int .i64 f.e]] W fun e w' => e = .returned (.tuple #[.agg #[.int .i64 g.c.kind, .int .i64 g.c.a, .int .i64 g.c.b, .int .i64 g.c.time, .int .i64 g.c.bk, .int .i64 g.c.slot, .int .i64 g.pl, .int .i64 g.cur, .int .i64 g.prev, .int .i64 g.slot, .int .i64 g.n, .slice aK g.keys.length cK, .bool g.done, .int .i64 g.e], .bool true]) ∧ Lk2 w w' (Foot B aS aH aF aL) B lo M f aK cK) := fun W h => by
      have := onward_yes M f B lo aS aH aF aL cS cH cF cL aK cK W h.m HOk.out hf hat
      rw [← hg] at this
      exact this.mono (fun e w' h' => ⟨h'.1, h.after h'.2.1 h'.2.2⟩)
    rw [← hkeys] at HR
    have HZ : Hid (∀ ad, aK = some ad → ¬ (Foot B aS aH aF aL) ad.block) := hz
    obtain ⟨of, hof⟩ : ∃ o : Obj, o = .cells #[.int .i64 f.c.kind, .int .i64 f.c.a, .int .i64 f.c.b, .int .i64 f.c.time, .int .i64 f.c.bk, .int .i64 f.c.slot, .int .i64 f.pl, .int .i64 f.cur, .int .i64 f.prev, .int .i64 f.slot, .int .i64 f.n, .slice aK f.keys.length cK, .bool f.done, .int .i64 f.e] 51 := ⟨_, rfl⟩
    obtain ⟨oz, hoz⟩ : ∃ o : Obj, o = zeroFr := ⟨_, rfl⟩
    have HE : Hid (Lk w ((w.alloc of).alloc oz) B lo aS aH aF aL cS cH cF cL M f aK cK) := Lk.first m f aK cK hof hoz
    obtain ⟨q0, q1, q2, q3, q4, -, -, -, -, -, qs⟩ := boxf HE.out.m.box
    obtain ⟨f0, f1, f2, f3, f4, f5, f6, f7, f8, f9, f10, f11, f12, f13, ff, fs⟩ := framef HE.out.fb
    unfold zeroFr at hoz
    clear m hc1 hn1 hcur hns hnh hM hf r hz hres hg hkeys hat
    go_enter Try.func132, Try.ntmps132
    go_wp2_with fail
    rw [← hof, ← hoz]
    generalize (w.alloc of).alloc oz = W0 at *
    subst hof hoz
    clear q0 q1 q2 q3 q4 qs
    clear f0 f1 f2 f3 f4 f5 f6 f7 f8 f9 f10 f11 f12 f13 ff fs
    rename_i K1 hK1 K0 hK0
    have HK1 : Hid _ := hK1
    clear hK1
    refine (HOn.out _ (by exact HE.out.below ⟨rfl, rfl, rfl, Nat.le_refl _, fun _ _ => rfl⟩)).mono ?_
    rintro e w2 ⟨rfl, h9⟩
    have HE2 : Hid (Lk2 w w2 (Foot B aS aH aF aL) B lo M f aK cK) := h9
    clear HE h9
    obtain ⟨f0, f1, f2, f3, f4, f5, f6, f7, f8, f9, f10, f11, f12, f13, ff, fs⟩ := framef HE2.out.fb
    go_wp2_with fail
    refine (fun (H : ∀ W3 : World, Lk2 w W3 (Foot B aS aH aF aL) B lo M g aK cK → K1 _ W3) => H _ (HE2.out.all g)) ?_
    clear HE2
    clear f0 f1 f2 f3 f4 f5 f6 f7 f8 f9 f10 f11 f12 f13 ff fs
    intro w3 h3
    have HE3 : Hid (Lk2 w w3 (Foot B aS aH aF aL) B lo M g aK cK) := h3
    clear h3
    refine HK1.out _ _ ?_
    clear HK1
    obtain ⟨f0, f1, f2, f3, f4, f5, f6, f7, f8, f9, f10, f11, f12, f13, ff, fs⟩ := framef HE3.out.fb
    go_wp2_with fail
    refine (to_any g 2 aK cK _).mono ?_
    rintro e w9 ⟨rfl, hb9⟩
    have HE9 : Hid (Lk2 w w9 (Foot B aS aH aF aL) B lo M g aK cK) := HE3.out.below hb9
    clear HE3 hb9
    clear f0 f1 f2 f3 f4 f5 f6 f7 f8 f9 f10 f11 f12 f13 ff fs
    obtain ⟨g0, g1, g2, g3, g4, g5, g6, g7, g8, g9, g10, g11, g12, g13, gf, gs⟩ := framef HE9.out.zb
    go_wp2
    refine bodyPost_ret (v := .agg #[.int .i64 (toF g 2).c.kind, .int .i64 (toF g 2).c.a, .int .i64 (toF g 2).c.b, .int .i64 (toF g 2).c.time, .int .i64 (toF g 2).c.bk, .int .i64 (toF g 2).c.slot, .int .i64 (toF g 2).pl, .int .i64 (toF g 2).cur, .int .i64 (toF g 2).prev, .int .i64 (toF g 2).slot, .int .i64 (toF g 2).n, .slice aK (toF g 2).keys.length cK, .bool (toF g 2).done, .int .i64 (toF g 2).e]) (by simp [results, Try.results132, go_sem, toF, g0, g1, g2, g3, g4, g5, g6, g7, g8, g9, g10, g11, g12, g13]) rfl ⟨⟨aK, cK, rfl, HR.out.fine HE9.out.end14.2 HZ.out, (fun ad h => .inl h), fun _ => ⟨rfl, rfl⟩⟩, HE9.out.end14⟩
  · have hat0 : isAt M f = false := by simpa using hat
    obtain ⟨g, hg⟩ : ∃ g : Fr, g = f := ⟨_, rfl⟩
    have hres : drPass M f = errF g 8 5 := by unfold drPass; rw [if_neg hat, hg]
    have hkeys : g.keys = f.keys := by rw [hg]
    rw [hres]
    have HOn : Hid (∀ W : World, Lk w W B lo aS aH aF aL cS cH cF cL M f aK cK → Calls Try.prog 158 #[.pointer (some ⟨B, 0, none⟩), .agg #[.int .i64 f.c.kind, .int .i64 f.c.a, .int .i64 f.c.b, .int .i64 f.c.time, .int .i64 f.c.bk, .int .i64 f.c.slot, .int .i64 f.pl, .int .i64 f.cur, .int .i64 f.prev, .int .i64 f.slot, .int .i64 f.n, .slice aK f.keys.length cK, .bool f.done, .int .i64 f.e]] W fun e w' => e = .returned (.tuple #[.agg #[.int .i64 g.c.kind, .int .i64 g.c.a, .int .i64 g.c.b, .int .i64 g.c.time, .int .i64 g.c.bk, .int .i64 g.c.slot, .int .i64 g.pl, .int .i64 g.cur, .int .i64 g.prev, .int .i64 g.slot, .int .i64 g.n, .slice aK g.keys.length cK, .bool g.done, .int .i64 g.e], .bool false]) ∧ Lk2 w w' (Foot B aS aH aF aL) B lo M f aK cK) := fun W h => by
      have := onward_no M f B lo aS aH aF aL cS cH cF cL aK cK W h.m HOk.out hf hat0
      rw [hg]
      exact this.mono (fun e w' h' => ⟨h'.1, h.after h'.2.1 h'.2.2⟩)
    rw [← hkeys] at HR
    have HZ : Hid (∀ ad, aK = some ad → ¬ (Foot B aS aH aF aL) ad.block) := hz
    obtain ⟨of, hof⟩ : ∃ o : Obj, o = .cells #[.int .i64 f.c.kind, .int .i64 f.c.a, .int .i64 f.c.b, .int .i64 f.c.time, .int .i64 f.c.bk, .int .i64 f.c.slot, .int .i64 f.pl, .int .i64 f.cur, .int .i64 f.prev, .int .i64 f.slot, .int .i64 f.n, .slice aK f.keys.length cK, .bool f.done, .int .i64 f.e] 51 := ⟨_, rfl⟩
    obtain ⟨oz, hoz⟩ : ∃ o : Obj, o = zeroFr := ⟨_, rfl⟩
    have HE : Hid (Lk w ((w.alloc of).alloc oz) B lo aS aH aF aL cS cH cF cL M f aK cK) := Lk.first m f aK cK hof hoz
    obtain ⟨q0, q1, q2, q3, q4, -, -, -, -, -, qs⟩ := boxf HE.out.m.box
    obtain ⟨f0, f1, f2, f3, f4, f5, f6, f7, f8, f9, f10, f11, f12, f13, ff, fs⟩ := framef HE.out.fb
    unfold zeroFr at hoz
    clear m hc1 hn1 hcur hns hnh hM hf r hz hres hg hkeys hat hat0
    go_enter Try.func132, Try.ntmps132
    go_wp2_with fail
    rw [← hof, ← hoz]
    generalize (w.alloc of).alloc oz = W0 at *
    subst hof hoz
    clear q0 q1 q2 q3 q4 qs
    clear f0 f1 f2 f3 f4 f5 f6 f7 f8 f9 f10 f11 f12 f13 ff fs
    rename_i K1 hK1 K0 hK0
    have HK1 : Hid _ := hK1
    clear hK1
    refine (HOn.out _ (by exact HE.out.below ⟨rfl, rfl, rfl, Nat.le_refl _, fun _ _ => rfl⟩)).mono ?_
    rintro e w2 ⟨rfl, h9⟩
    have HE2 : Hid (Lk2 w w2 (Foot B aS aH aF aL) B lo M f aK cK) := h9
    clear HE h9
    obtain ⟨f0, f1, f2, f3, f4, f5, f6, f7, f8, f9, f10, f11, f12, f13, ff, fs⟩ := framef HE2.out.fb
    go_wp2_with fail
    refine (fun (H : ∀ W3 : World, Lk2 w W3 (Foot B aS aH aF aL) B lo M g aK cK → K1 _ W3) => H _ (HE2.out.all g)) ?_
    clear HE2
    clear f0 f1 f2 f3 f4 f5 f6 f7 f8 f9 f10 f11 f12 f13 ff fs
    intro w3 h3
    have HE3 : Hid (Lk2 w w3 (Foot B aS aH aF aL) B lo M g aK cK) := h3
    clear h3
    refine HK1.out _ _ ?_
    clear HK1
    obtain ⟨f0, f1, f2, f3, f4, f5, f6, f7, f8, f9, f10, f11, f12, f13, ff, fs⟩ := framef HE3.out.fb
    go_wp2_with fail
    refine (drlate_any g aK cK _).mono ?_
    rintro e w9 ⟨rfl, hb9⟩
    have HE9 : Hid (Lk2 w w9 (Foot B aS aH aF aL) B lo M g aK cK) := HE3.out.below hb9
    clear HE3 hb9
    clear f0 f1 f2 f3 f4 f5 f6 f7 f8 f9 f10 f11 f12 f13 ff fs
    obtain ⟨g0, g1, g2, g3, g4, g5, g6, g7, g8, g9, g10, g11, g12, g13, gf, gs⟩ := framef HE9.out.zb
    go_wp2
    refine bodyPost_ret (v := .agg #[.int .i64 (errF g 8 5).c.kind, .int .i64 (errF g 8 5).c.a, .int .i64 (errF g 8 5).c.b, .int .i64 (errF g 8 5).c.time, .int .i64 (errF g 8 5).c.bk, .int .i64 (errF g 8 5).c.slot, .int .i64 (errF g 8 5).pl, .int .i64 (errF g 8 5).cur, .int .i64 (errF g 8 5).prev, .int .i64 (errF g 8 5).slot, .int .i64 (errF g 8 5).n, .slice aK (errF g 8 5).keys.length cK, .bool (errF g 8 5).done, .int .i64 (errF g 8 5).e]) (by simp [results, Try.results132, go_sem, errF, g0, g1, g2, g3, g4, g5, g6, g7, g8, g9, g10, g11, g12, g13]) rfl ⟨⟨aK, cK, rfl, HR.out.fine HE9.out.end14.2 HZ.out, (fun ad h => .inl h), fun _ => ⟨rfl, rfl⟩⟩, HE9.out.end14⟩
end Go.Proofs.Ytdbilofhcadmoab.mm

/- The contracts of drop's parts that change nothing. -/
namespace Go.Proofs.Ytdbilofhcadmoab.mm
open Go.ChangeShapes Go.WideShapes Go.ChangeAt Go.RowKit Go.Joins Go.Deep Go.Sort
set_option maxRecDepth 100000
set_option linter.unusedVariables false


end Go.Proofs.Ytdbilofhcadmoab.mm
