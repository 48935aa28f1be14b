/- The contract of sweep's part see. -/
import Derived.Test.YtdbilofhcadmoacC08
import Derived.Test.YtdbilofhcadmoacC15
import Derived.Test.YtdbilofhcadmoacC07
import Derived.Deep.QuietTactic
import Derived.BigQuiet
import Derived.BigRegion
import Derived.Lib.QuietBelow
namespace Go.Proofs.Ytdbilofhcadmoac.mm
open Go.ChangeShapes Go.WideShapes Go.ChangeAt Go.RowKit Go.Joins Go.Deep Go.Sort
set_option maxRecDepth 100000
set_option linter.unusedVariables false

set_option maxHeartbeats 3200000 in
theorem sw_see_no (M : Mm) (f : Fr) (B lo : Nat) (aS aH aF aL : Option Addr) (cS cH cF cL : Nat) (aK : Option Addr) (cK : Nat) (w : World)
    (m : Mine w B lo aS aH aF aL cS cH cF cL M) (hM : Ok M) (hf : Fit M f) (r : KRow w aK cK f.keys) (hz : ∀ ad, aK = some ad → ¬ Foot B aS aH aF aL ad.block) (hk4 : f.c.kind = 4 ∨ f.c.kind = 5) (hat : ¬ isAt M f = true) :
    Calls Try.prog 34 #[.pointer (some ⟨B, 0, none⟩), .agg #[.int .i64 f.c.kind, .int .i64 f.c.a, .int .i64 f.c.b, .int .i64 f.c.time, .int .i64 f.c.bk, .int .i64 f.c.slot, .int .i64 f.pl, .int .i64 f.cur, .int .i64 f.prev, .int .i64 f.slot, .int .i64 f.n, .slice aK f.keys.length cK, .bool f.done, .int .i64 f.e]] w fun e w' => Ret w w' e (swSee M f) aK cK ∧ Has w' B lo (Up w (Foot B aS aH aF aL)) (M) ∧ Fine w w' (Foot B aS aH aF aL) := by
  have hns := hM.ns
  have hnh := hM.nh.2
  have hcur := hf.cur.2
  have hc1 : f.cur ≤ 1000 := by omega
  have hn1 : M.slots.length ≤ 1000 := by omega
  have HOk : Hid (Ok M) := hM
  have HR : Hid (KRow w aK cK f.keys) := r
  have hat0 : isAt M f = false := by simpa using hat
  have hres : swSee M f = toF f 6 := by unfold swSee; rw [if_neg hat]
  rw [hres]
  have HSt : Hid (∀ (W : World), Lk w W B lo aS aH aF aL cS cH cF cL M f aK cK → Calls Try.prog 71 #[.pointer (some ⟨B, 0, none⟩), .agg #[.int .i64 f.c.kind, .int .i64 f.c.a, .int .i64 f.c.b, .int .i64 f.c.time, .int .i64 f.c.bk, .int .i64 f.c.slot, .int .i64 f.pl, .int .i64 f.cur, .int .i64 f.prev, .int .i64 f.slot, .int .i64 f.n, .slice aK f.keys.length cK, .bool f.done, .int .i64 f.e]] W fun e w' => e = .returned (.tuple #[.int .i64 (stN f), .bool false]) ∧ Lk w w' B lo aS aH aF aL cS cH cF cL M f aK cK) := fun W h => by
    have := standsAt_any M f B _ _ _ _ cS cH cF cL aK cK W h.m.box hc1 hn1
    rw [hat0] at this
    exact this.mono (fun e w' h' => ⟨h'.1, h.below h'.2⟩)
  have HZ : Hid (∀ ad, aK = some ad → ¬ (Foot B aS aH aF aL) ad.block) := hz
  obtain ⟨of, hof⟩ : ∃ o : Obj, o = .cells #[.int .i64 f.c.kind, .int .i64 f.c.a, .int .i64 f.c.b, .int .i64 f.c.time, .int .i64 f.c.bk, .int .i64 f.c.slot, .int .i64 f.pl, .int .i64 f.cur, .int .i64 f.prev, .int .i64 f.slot, .int .i64 f.n, .slice aK f.keys.length cK, .bool f.done, .int .i64 f.e] 33 := ⟨_, rfl⟩
  obtain ⟨oz, hoz⟩ : ∃ o : Obj, o = zeroFr := ⟨_, rfl⟩
  have HE : Hid (Lk w ((w.alloc of).alloc oz) B lo aS aH aF aL cS cH cF cL M f aK cK) := Lk.first m f aK cK hof hoz
  obtain ⟨q0, q1, q2, q3, q4, -, -, -, -, -, qs⟩ := boxf HE.out.m.box
  obtain ⟨f0, f1, f2, f3, f4, f5, f6, f7, f8, f9, f10, f11, f12, f13, ff, fs⟩ := framef HE.out.fb
  unfold zeroFr at hoz
  clear m hc1 hn1 hcur hns hnh hM hf r hz hres hat hat0 hk4
  go_enter Try.func34, Try.ntmps34
  go_wp2_with fail
  rw [← hof, ← hoz]
  generalize (w.alloc of).alloc oz = W0 at *
  subst hof hoz
  clear q0 q1 q2 q3 q4 qs
  clear f0 f1 f2 f3 f4 f5 f6 f7 f8 f9 f10 f11 f12 f13 ff fs
  refine (HSt.out _ (by exact HE.out.below ⟨rfl, rfl, rfl, Nat.le_refl _, fun _ _ => rfl⟩)).mono ?_
  rintro e w1 ⟨rfl, h9⟩
  have HE1 : Hid (Lk w w1 B lo aS aH aF aL cS cH cF cL M f aK cK) := h9
  clear HE h9
  obtain ⟨q0, q1, q2, q3, q4, -, -, -, -, -, qs⟩ := boxf HE1.out.m.box
  obtain ⟨f0, f1, f2, f3, f4, f5, f6, f7, f8, f9, f10, f11, f12, f13, ff, fs⟩ := framef HE1.out.fb
  go_wp2_with fail
  have HE2 : Hid (Lk2 w _ (Foot B aS aH aF aL) B lo M f aK cK) := HE1.out.two
  clear HE1
  clear q0 q1 q2 q3 q4 qs
  refine (to_any f 6 aK cK _).mono ?_
  rintro e w9 ⟨rfl, hb9⟩
  have HE9 : Hid (Lk2 w w9 (Foot B aS aH aF aL) B lo M f aK cK) := HE2.out.below hb9
  clear HE2 hb9
  clear f0 f1 f2 f3 f4 f5 f6 f7 f8 f9 f10 f11 f12 f13 ff fs
  obtain ⟨g0, g1, g2, g3, g4, g5, g6, g7, g8, g9, g10, g11, g12, g13, gf, gs⟩ := framef HE9.out.zb
  go_wp2
  refine bodyPost_ret (v := .agg #[.int .i64 (toF f 6).c.kind, .int .i64 (toF f 6).c.a, .int .i64 (toF f 6).c.b, .int .i64 (toF f 6).c.time, .int .i64 (toF f 6).c.bk, .int .i64 (toF f 6).c.slot, .int .i64 (toF f 6).pl, .int .i64 (toF f 6).cur, .int .i64 (toF f 6).prev, .int .i64 (toF f 6).slot, .int .i64 (toF f 6).n, .slice aK (toF f 6).keys.length cK, .bool (toF f 6).done, .int .i64 (toF f 6).e]) (by simp [results, Try.results34, go_sem, toF, g0, g1, g2, g3, g4, g5, g6, g7, g8, g9, g10, g11, g12, g13]) rfl ⟨⟨aK, cK, rfl, HR.out.fine HE9.out.end14.2 HZ.out, (fun ad h => .inl h), fun _ => ⟨rfl, rfl⟩⟩, HE9.out.end14⟩

set_option maxHeartbeats 3200000 in
theorem sw_see_four (M : Mm) (f : Fr) (B lo : Nat) (aS aH aF aL : Option Addr) (cS cH cF cL : Nat) (aK : Option Addr) (cK : Nat) (w : World)
    (m : Mine w B lo aS aH aF aL cS cH cF cL M) (hM : Ok M) (hf : Fit M f) (r : KRow w aK cK f.keys) (hz : ∀ ad, aK = some ad → ¬ Foot B aS aH aF aL ad.block) (hk4 : f.c.kind = 4) (hat : isAt M f = true) :
    Calls Try.prog 34 #[.pointer (some ⟨B, 0, none⟩), .agg #[.int .i64 f.c.kind, .int .i64 f.c.a, .int .i64 f.c.b, .int .i64 f.c.time, .int .i64 f.c.bk, .int .i64 f.c.slot, .int .i64 f.pl, .int .i64 f.cur, .int .i64 f.prev, .int .i64 f.slot, .int .i64 f.n, .slice aK f.keys.length cK, .bool f.done, .int .i64 f.e]] w fun e w' => Ret w w' e (swSee M f) aK cK ∧ Has w' B lo (Up w (Foot B aS aH aF aL)) (M) ∧ Fine w w' (Foot B aS aH aF aL) := by
  have hns := hM.ns
  have hnh := hM.nh.2
  have hcur := hf.cur.2
  have hc1 : f.cur ≤ 1000 := by omega
  have hn1 : M.slots.length ≤ 1000 := by omega
  have HOk : Hid (Ok M) := hM
  have HR : Hid (KRow w aK cK f.keys) := r
  have h1 := isAt_iff.1 hat
  obtain ⟨j, hj⟩ : ∃ j : Nat, f.cur - 1 = j := ⟨(f.cur - 1).toNat, by omega⟩
  have hjl : j < M.slots.length := by omega
  obtain ⟨gS, rfl, oS, lS, kS, -⟩ := row_form m.c.s (by omega)
  obtain ⟨s, hs⟩ : ∃ s, s = slotAt M (j : Int) := ⟨_, rfl⟩
  have hst : stN f = j := by unfold stN; rw [if_neg (by omega)]; exact hj
  have HX : Hid (∀ W, Mine W B lo (some ⟨gS, 0, none⟩) aH aF aL cS cH cF cL M → W.cell? ⟨gS, j * 6 + 1, none⟩ = some (.int .i64 s.a) ∧ W.cell? ⟨gS, j * 6 + 2, none⟩ = some (.int .i64 s.b) ∧ W.cell? ⟨gS, j * 6 + 3, none⟩ = some (.int .i64 s.unt)) := fun W m' => ⟨(slotAt_cells m'.c.s hjl hs).2.1, (slotAt_cells m'.c.s hjl hs).2.2.1, (slotAt_cells m'.c.s hjl hs).2.2.2.1⟩
  have HSt : Hid (∀ (W : World), Lk w W B lo (some ⟨gS, 0, none⟩) aH aF aL cS cH cF cL M f aK cK → Calls Try.prog 71 #[.pointer (some ⟨B, 0, none⟩), .agg #[.int .i64 f.c.kind, .int .i64 f.c.a, .int .i64 f.c.b, .int .i64 f.c.time, .int .i64 f.c.bk, .int .i64 f.c.slot, .int .i64 f.pl, .int .i64 f.cur, .int .i64 f.prev, .int .i64 f.slot, .int .i64 f.n, .slice aK f.keys.length cK, .bool f.done, .int .i64 f.e]] W fun e w' => e = .returned (.tuple #[.int .i64 ((j : Int)), .bool true]) ∧ Lk w w' B lo (some ⟨gS, 0, none⟩) aH aF aL cS cH cF cL M f aK cK) := fun W h => by
    have := standsAt_any M f B _ _ _ _ cS cH cF cL aK cK W h.m.box hc1 hn1
    rw [hst, hat] at this
    exact this.mono (fun e w' h' => ⟨h'.1, h.below h'.2⟩)
  have e5 : (f.c.kind == 5) = false := by rw [beq_eq_false_iff_ne]; omega
  have e4 : (f.c.kind == 4) = true := by rw [beq_iff_eq]; exact hk4
  have hk5 : ¬ f.c.kind = 5 := by omega
  by_cases hu : M.now < s.unt
  · have hres : swSee M f = toF f 3 := by unfold swSee; rw [if_pos hat, if_neg hk5, hj, ← hs, if_pos hu]
    have hle : ¬ s.unt ≤ M.now := by omega
    rw [hres]
    have HZ : Hid (∀ ad, aK = some ad → ¬ (Foot B (some ⟨gS, 0, none⟩) aH aF aL) ad.block) := hz
    obtain ⟨of, hof⟩ : ∃ o : Obj, o = .cells #[.int .i64 f.c.kind, .int .i64 f.c.a, .int .i64 f.c.b, .int .i64 f.c.time, .int .i64 f.c.bk, .int .i64 f.c.slot, .int .i64 f.pl, .int .i64 f.cur, .int .i64 f.prev, .int .i64 f.slot, .int .i64 f.n, .slice aK f.keys.length cK, .bool f.done, .int .i64 f.e] 33 := ⟨_, rfl⟩
    obtain ⟨oz, hoz⟩ : ∃ o : Obj, o = zeroFr := ⟨_, rfl⟩
    have HE : Hid (Lk w ((w.alloc of).alloc oz) B lo (some ⟨gS, 0, none⟩) aH aF aL cS cH cF cL M f aK cK) := Lk.first m f aK cK hof hoz
    obtain ⟨q0, q1, q2, q3, q4, -, -, -, -, -, qs⟩ := boxf HE.out.m.box
    obtain ⟨f0, f1, f2, f3, f4, f5, f6, f7, f8, f9, f10, f11, f12, f13, ff, fs⟩ := framef HE.out.fb
    unfold zeroFr at hoz
    clear m hc1 hn1 hcur hns hnh hM hf r hz hres hs hst hat h1 hk4 hk5 hu hj
    go_enter Try.func34, Try.ntmps34
    go_wp2_with fail
    rw [← hof, ← hoz]
    generalize (w.alloc of).alloc oz = W0 at *
    subst hof hoz
    clear q0 q1 q2 q3 q4 qs
    clear f0 f1 f2 f3 f4 f5 f6 f7 f8 f9 f10 f11 f12 f13 ff fs
    refine (HSt.out _ (by exact HE.out.below ⟨rfl, rfl, rfl, Nat.le_refl _, fun _ _ => rfl⟩)).mono ?_
    rintro e w1 ⟨rfl, h9⟩
    have HE1 : Hid (Lk w w1 B lo (some ⟨gS, 0, none⟩) aH aF aL cS cH cF cL M f aK cK) := h9
    clear HE h9
    obtain ⟨q0, q1, q2, q3, q4, -, -, -, -, -, qs⟩ := boxf HE1.out.m.box
    obtain ⟨f0, f1, f2, f3, f4, f5, f6, f7, f8, f9, f10, f11, f12, f13, ff, fs⟩ := framef HE1.out.fb
    obtain ⟨x1, x2, x3⟩ := HX.out w1 HE1.out.m
    go_wp2_with fail
    go_quiet (fail)
    go_wp2_with fail
    have HE2 : Hid (Lk2 w (w1.drewN nq) (Foot B (some ⟨gS, 0, none⟩) aH aF aL) B lo M f aK cK) := (HE1.out.below (w2 := w1.drewN nq) ⟨rfl, rfl, rfl, Nat.le_refl _, fun _ _ => rfl⟩).two
    clear HE1 x1 x2 x3
    clear q0 q1 q2 q3 q4 qs
    refine (to_any f 3 aK cK _).mono ?_
    rintro e w9 ⟨rfl, hb9⟩
    have HE9 : Hid (Lk2 w w9 (Foot B (some ⟨gS, 0, none⟩) aH aF aL) B lo M f aK cK) := HE2.out.below hb9
    clear HE2 hb9
    clear f0 f1 f2 f3 f4 f5 f6 f7 f8 f9 f10 f11 f12 f13 ff fs
    obtain ⟨g0, g1, g2, g3, g4, g5, g6, g7, g8, g9, g10, g11, g12, g13, gf, gs⟩ := framef HE9.out.zb
    go_wp2
    refine bodyPost_ret (v := .agg #[.int .i64 (toF f 3).c.kind, .int .i64 (toF f 3).c.a, .int .i64 (toF f 3).c.b, .int .i64 (toF f 3).c.time, .int .i64 (toF f 3).c.bk, .int .i64 (toF f 3).c.slot, .int .i64 (toF f 3).pl, .int .i64 (toF f 3).cur, .int .i64 (toF f 3).prev, .int .i64 (toF f 3).slot, .int .i64 (toF f 3).n, .slice aK (toF f 3).keys.length cK, .bool (toF f 3).done, .int .i64 (toF f 3).e]) (by simp [results, Try.results34, go_sem, toF, g0, g1, g2, g3, g4, g5, g6, g7, g8, g9, g10, g11, g12, g13]) rfl ⟨⟨aK, cK, rfl, HR.out.fine HE9.out.end14.2 HZ.out, (fun ad h => .inl h), fun _ => ⟨rfl, rfl⟩⟩, HE9.out.end14⟩
  · have hres : swSee M f = toF f 4 := by unfold swSee; rw [if_pos hat, if_neg hk5, hj, ← hs, if_neg hu]
    have hle : s.unt ≤ M.now := by omega
    rw [hres]
    have HZ : Hid (∀ ad, aK = some ad → ¬ (Foot B (some ⟨gS, 0, none⟩) aH aF aL) ad.block) := hz
    obtain ⟨of, hof⟩ : ∃ o : Obj, o = .cells #[.int .i64 f.c.kind, .int .i64 f.c.a, .int .i64 f.c.b, .int .i64 f.c.time, .int .i64 f.c.bk, .int .i64 f.c.slot, .int .i64 f.pl, .int .i64 f.cur, .int .i64 f.prev, .int .i64 f.slot, .int .i64 f.n, .slice aK f.keys.length cK, .bool f.done, .int .i64 f.e] 33 := ⟨_, rfl⟩
    obtain ⟨oz, hoz⟩ : ∃ o : Obj, o = zeroFr := ⟨_, rfl⟩
    have HE : Hid (Lk w ((w.alloc of).alloc oz) B lo (some ⟨gS, 0, none⟩) aH aF aL cS cH cF cL M f aK cK) := Lk.first m f aK cK hof hoz
    obtain ⟨q0, q1, q2, q3, q4, -, -, -, -, -, qs⟩ := boxf HE.out.m.box
    obtain ⟨f0, f1, f2, f3, f4, f5, f6, f7, f8, f9, f10, f11, f12, f13, ff, fs⟩ := framef HE.out.fb
    unfold zeroFr at hoz
    clear m hc1 hn1 hcur hns hnh hM hf r hz hres hs hst hat h1 hk4 hk5 hu hj
    go_enter Try.func34, Try.ntmps34
    go_wp2_with fail
    rw [← hof, ← hoz]
    generalize (w.alloc of).alloc oz = W0 at *
    subst hof hoz
    clear q0 q1 q2 q3 q4 qs
    clear f0 f1 f2 f3 f4 f5 f6 f7 f8 f9 f10 f11 f12 f13 ff fs
    refine (HSt.out _ (by exact HE.out.below ⟨rfl, rfl, rfl, Nat.le_refl _, fun _ _ => rfl⟩)).mono ?_
    rintro e w1 ⟨rfl, h9⟩
    have HE1 : Hid (Lk w w1 B lo (some ⟨gS, 0, none⟩) aH aF aL cS cH cF cL M f aK cK) := h9
    clear HE h9
    obtain ⟨q0, q1, q2, q3, q4, -, -, -, -, -, qs⟩ := boxf HE1.out.m.box
    obtain ⟨f0, f1, f2, f3, f4, f5, f6, f7, f8, f9, f10, f11, f12, f13, ff, fs⟩ := framef HE1.out.fb
    obtain ⟨x1, x2, x3⟩ := HX.out w1 HE1.out.m
    go_wp2_with fail
    go_quiet (fail)
    go_wp2_with fail
    have HE2 : Hid (Lk2 w (w1.drewN nq) (Foot B (some ⟨gS, 0, none⟩) aH aF aL) B lo M f aK cK) := (HE1.out.below (w2 := w1.drewN nq) ⟨rfl, rfl, rfl, Nat.le_refl _, fun _ _ => rfl⟩).two
    clear HE1 x1 x2 x3
    clear q0 q1 q2 q3 q4 qs
    refine (to_any f 4 aK cK _).mono ?_
    rintro e w9 ⟨rfl, hb9⟩
    have HE9 : Hid (Lk2 w w9 (Foot B (some ⟨gS, 0, none⟩) aH aF aL) B lo M f aK cK) := HE2.out.below hb9
    clear HE2 hb9
    clear f0 f1 f2 f3 f4 f5 f6 f7 f8 f9 f10 f11 f12 f13 ff fs
    obtain ⟨g0, g1, g2, g3, g4, g5, g6, g7, g8, g9, g10, g11, g12, g13, gf, gs⟩ := framef HE9.out.zb
    go_wp2
    refine bodyPost_ret (v := .agg #[.int .i64 (toF f 4).c.kind, .int .i64 (toF f 4).c.a, .int .i64 (toF f 4).c.b, .int .i64 (toF f 4).c.time, .int .i64 (toF f 4).c.bk, .int .i64 (toF f 4).c.slot, .int .i64 (toF f 4).pl, .int .i64 (toF f 4).cur, .int .i64 (toF f 4).prev, .int .i64 (toF f 4).slot, .int .i64 (toF f 4).n, .slice aK (toF f 4).keys.length cK, .bool (toF f 4).done, .int .i64 (toF f 4).e]) (by simp [results, Try.results34, go_sem, toF, g0, g1, g2, g3, g4, g5, g6, g7, g8, g9, g10, g11, g12, g13]) rfl ⟨⟨aK, cK, rfl, HR.out.fine HE9.out.end14.2 HZ.out, (fun ad h => .inl h), fun _ => ⟨rfl, rfl⟩⟩, HE9.out.end14⟩

set_option maxHeartbeats 3200000 in
theorem sw_see_full (M : Mm) (f : Fr) (B lo : Nat) (aS aH aF aL : Option Addr) (cS cH cF cL : Nat) (aK : Option Addr) (cK : Nat) (w : World)
    (m : Mine w B lo aS aH aF aL cS cH cF cL M) (hM : Ok M) (hf : Fit M f) (r : KRow w aK cK f.keys) (hz : ∀ ad, aK = some ad → ¬ Foot B aS aH aF aL ad.block) (hk5 : f.c.kind = 5) (hat : isAt M f = true) (hkl : ¬ f.keys.length < 100) :
    Calls Try.prog 34 #[.pointer (some ⟨B, 0, none⟩), .agg #[.int .i64 f.c.kind, .int .i64 f.c.a, .int .i64 f.c.b, .int .i64 f.c.time, .int .i64 f.c.bk, .int .i64 f.c.slot, .int .i64 f.pl, .int .i64 f.cur, .int .i64 f.prev, .int .i64 f.slot, .int .i64 f.n, .slice aK f.keys.length cK, .bool f.done, .int .i64 f.e]] w fun e w' => Ret w w' e (swSee M f) aK cK ∧ Has w' B lo (Up w (Foot B aS aH aF aL)) (M) ∧ Fine w w' (Foot B aS aH aF aL) := by
  have hns := hM.ns
  have hnh := hM.nh.2
  have hcur := hf.cur.2
  have hc1 : f.cur ≤ 1000 := by omega
  have hn1 : M.slots.length ≤ 1000 := by omega
  have HOk : Hid (Ok M) := hM
  have HR : Hid (KRow w aK cK f.keys) := r
  have h1 := isAt_iff.1 hat
  obtain ⟨j, hj⟩ : ∃ j : Nat, f.cur - 1 = j := ⟨(f.cur - 1).toNat, by omega⟩
  have hjl : j < M.slots.length := by omega
  obtain ⟨gS, rfl, oS, lS, kS, -⟩ := row_form m.c.s (by omega)
  obtain ⟨s, hs⟩ : ∃ s, s = slotAt M (j : Int) := ⟨_, rfl⟩
  have hst : stN f = j := by unfold stN; rw [if_neg (by omega)]; exact hj
  have hres : swSee M f = toF f 3 := by unfold swSee; rw [if_pos hat, if_pos hk5]; unfold swKeys; rw [if_neg hkl]; rfl
  rw [hres]
  have HNt : Hid (∀ W : World, Lk w W B lo (some ⟨gS, 0, none⟩) aH aF aL cS cH cF cL M f aK cK → Calls Try.prog 72 #[.agg #[.int .i64 f.c.kind, .int .i64 f.c.a, .int .i64 f.c.b, .int .i64 f.c.time, .int .i64 f.c.bk, .int .i64 f.c.slot, .int .i64 f.pl, .int .i64 f.cur, .int .i64 f.prev, .int .i64 f.slot, .int .i64 f.n, .slice aK f.keys.length cK, .bool f.done, .int .i64 f.e], .agg #[.int .i64 s.a, .int .i64 s.b]] W fun e w' => e = .returned (.agg #[.int .i64 f.c.kind, .int .i64 f.c.a, .int .i64 f.c.b, .int .i64 f.c.time, .int .i64 f.c.bk, .int .i64 f.c.slot, .int .i64 f.pl, .int .i64 f.cur, .int .i64 f.prev, .int .i64 f.slot, .int .i64 f.n, .slice aK f.keys.length cK, .bool f.done, .int .i64 f.e]) ∧ Lk w w' B lo (some ⟨gS, 0, none⟩) aH aF aL cS cH cF cL M f aK cK) := fun W h => (note_full f s.a s.b aK cK W hkl).mono (fun e w' h' => ⟨h'.1, h.below h'.2⟩)
  have HX : Hid (∀ W, Mine W B lo (some ⟨gS, 0, none⟩) aH aF aL cS cH cF cL M → W.cell? ⟨gS, j * 6 + 1, none⟩ = some (.int .i64 s.a) ∧ W.cell? ⟨gS, j * 6 + 2, none⟩ = some (.int .i64 s.b) ∧ W.cell? ⟨gS, j * 6 + 3, none⟩ = some (.int .i64 s.unt)) := fun W m' => ⟨(slotAt_cells m'.c.s hjl hs).2.1, (slotAt_cells m'.c.s hjl hs).2.2.1, (slotAt_cells m'.c.s hjl hs).2.2.2.1⟩
  have HSt : Hid (∀ (W : World), Lk w W B lo (some ⟨gS, 0, none⟩) aH aF aL cS cH cF cL M f aK cK → Calls Try.prog 71 #[.pointer (some ⟨B, 0, none⟩), .agg #[.int .i64 f.c.kind, .int .i64 f.c.a, .int .i64 f.c.b, .int .i64 f.c.time, .int .i64 f.c.bk, .int .i64 f.c.slot, .int .i64 f.pl, .int .i64 f.cur, .int .i64 f.prev, .int .i64 f.slot, .int .i64 f.n, .slice aK f.keys.length cK, .bool f.done, .int .i64 f.e]] W fun e w' => e = .returned (.tuple #[.int .i64 ((j : Int)), .bool true]) ∧ Lk w w' B lo (some ⟨gS, 0, none⟩) aH aF aL cS cH cF cL M f aK cK) := fun W h => by
    have := standsAt_any M f B _ _ _ _ cS cH cF cL aK cK W h.m.box hc1 hn1
    rw [hst, hat] at this
    exact this.mono (fun e w' h' => ⟨h'.1, h.below h'.2⟩)
  have e5 : (f.c.kind == 5) = true := by rw [beq_iff_eq]; exact hk5
  have HZ : Hid (∀ ad, aK = some ad → ¬ (Foot B (some ⟨gS, 0, none⟩) aH aF aL) ad.block) := hz
  obtain ⟨of, hof⟩ : ∃ o : Obj, o = .cells #[.int .i64 f.c.kind, .int .i64 f.c.a, .int .i64 f.c.b, .int .i64 f.c.time, .int .i64 f.c.bk, .int .i64 f.c.slot, .int .i64 f.pl, .int .i64 f.cur, .int .i64 f.prev, .int .i64 f.slot, .int .i64 f.n, .slice aK f.keys.length cK, .bool f.done, .int .i64 f.e] 33 := ⟨_, rfl⟩
  obtain ⟨oz, hoz⟩ : ∃ o : Obj, o = zeroFr := ⟨_, rfl⟩
  have HE : Hid (Lk w ((w.alloc of).alloc oz) B lo (some ⟨gS, 0, none⟩) aH aF aL cS cH cF cL M f aK cK) := Lk.first m f aK cK hof hoz
  obtain ⟨q0, q1, q2, q3, q4, -, -, -, -, -, qs⟩ := boxf HE.out.m.box
  obtain ⟨f0, f1, f2, f3, f4, f5, f6, f7, f8, f9, f10, f11, f12, f13, ff, fs⟩ := framef HE.out.fb
  unfold zeroFr at hoz
  clear m hc1 hn1 hcur hns hnh hM hf r hz hres hs hst hat h1 hk5 hj hkl
  go_enter Try.func34, Try.ntmps34
  go_wp2_with fail
  rw [← hof, ← hoz]
  generalize (w.alloc of).alloc oz = W0 at *
  subst hof hoz
  clear q0 q1 q2 q3 q4 qs
  clear f0 f1 f2 f3 f4 f5 f6 f7 f8 f9 f10 f11 f12 f13 ff fs
  refine (HSt.out _ (by exact HE.out.below ⟨rfl, rfl, rfl, Nat.le_refl _, fun _ _ => rfl⟩)).mono ?_
  rintro e w1 ⟨rfl, h9⟩
  have HE1 : Hid (Lk w w1 B lo (some ⟨gS, 0, none⟩) aH aF aL cS cH cF cL M f aK cK) := h9
  clear HE h9
  obtain ⟨q0, q1, q2, q3, q4, -, -, -, -, -, qs⟩ := boxf HE1.out.m.box
  obtain ⟨f0, f1, f2, f3, f4, f5, f6, f7, f8, f9, f10, f11, f12, f13, ff, fs⟩ := framef HE1.out.fb
  obtain ⟨x1, x2, x3⟩ := HX.out w1 HE1.out.m
  go_wp2_with fail
  go_region_with (first | (go_at_call 72; refine (HNt.out _ (by exact HE1.out.below ⟨rfl, rfl, rfl, Nat.le_refl _, fun _ _ => rfl⟩)).mono ?_; rintro e w2 ⟨rfl, h9⟩; have HE2 : Hid (Lk w w2 B lo (some ⟨gS, 0, none⟩) aH aF aL cS cH cF cL M f aK cK) := h9; clear h9) | (go_at_call 69; refine (to_any f 3 aK cK _).mono ?_; rintro e w3 ⟨rfl, hb3⟩; have HE3 : Hid (Lk w w3 B lo (some ⟨gS, 0, none⟩) aH aF aL cS cH cF cL M f aK cK) := HE2.out.below hb3; clear hb3; obtain ⟨g0, g1, g2, g3, g4, g5, g6, g7, g8, g9, g10, g11, g12, g13, gf, gs⟩ := framef HE3.out.zb))
  all_goals
    clear q0 q1 q2 q3 q4 qs
    clear f0 f1 f2 f3 f4 f5 f6 f7 f8 f9 f10 f11 f12 f13 ff fs
    go_wp2
    refine bodyPost_ret (v := .agg #[.int .i64 (toF f 3).c.kind, .int .i64 (toF f 3).c.a, .int .i64 (toF f 3).c.b, .int .i64 (toF f 3).c.time, .int .i64 (toF f 3).c.bk, .int .i64 (toF f 3).c.slot, .int .i64 (toF f 3).pl, .int .i64 (toF f 3).cur, .int .i64 (toF f 3).prev, .int .i64 (toF f 3).slot, .int .i64 (toF f 3).n, .slice aK (toF f 3).keys.length cK, .bool (toF f 3).done, .int .i64 (toF f 3).e]) (by simp [results, Try.results34, go_sem, toF, g0, g1, g2, g3, g4, g5, g6, g7, g8, g9, g10, g11, g12, g13]) rfl ⟨⟨aK, cK, rfl, HR.out.fine HE3.out.two.end14.2 HZ.out, (fun ad h => .inl h), fun _ => ⟨rfl, rfl⟩⟩, HE3.out.two.end14⟩

set_option maxHeartbeats 3200000 in
theorem sw_see_list (M : Mm) (f : Fr) (B lo : Nat) (aS aH aF aL : Option Addr) (cS cH cF cL : Nat) (aK : Option Addr) (cK : Nat) (w : World)
    (m : Mine w B lo aS aH aF aL cS cH cF cL M) (hM : Ok M) (hf : Fit M f) (r : KRow w aK cK f.keys) (hz : ∀ ad, aK = some ad → ¬ Foot B aS aH aF aL ad.block) (hk5 : f.c.kind = 5) (hat : isAt M f = true) (hkl : f.keys.length < 100) :
    Calls Try.prog 34 #[.pointer (some ⟨B, 0, none⟩), .agg #[.int .i64 f.c.kind, .int .i64 f.c.a, .int .i64 f.c.b, .int .i64 f.c.time, .int .i64 f.c.bk, .int .i64 f.c.slot, .int .i64 f.pl, .int .i64 f.cur, .int .i64 f.prev, .int .i64 f.slot, .int .i64 f.n, .slice aK f.keys.length cK, .bool f.done, .int .i64 f.e]] w fun e w' => RetO w w' e (swSee M f) ∧ Has w' B lo (Up w (Foot B aS aH aF aL)) (M) ∧ Fine w w' (Foot B aS aH aF aL) := by
  have hns := hM.ns
  have hnh := hM.nh.2
  have hcur := hf.cur.2
  have hc1 : f.cur ≤ 1000 := by omega
  have hn1 : M.slots.length ≤ 1000 := by omega
  have HOk : Hid (Ok M) := hM
  have HR : Hid (KRow w aK cK f.keys) := r
  have h1 := isAt_iff.1 hat
  obtain ⟨j, hj⟩ : ∃ j : Nat, f.cur - 1 = j := ⟨(f.cur - 1).toNat, by omega⟩
  have hjl : j < M.slots.length := by omega
  obtain ⟨gS, rfl, oS, lS, kS, -⟩ := row_form m.c.s (by omega)
  obtain ⟨s, hs⟩ : ∃ s, s = slotAt M (j : Int) := ⟨_, rfl⟩
  have hst : stN f = j := by unfold stN; rw [if_neg (by omega)]; exact hj
  obtain ⟨fk, hfk⟩ : ∃ fk : Fr, fk = { f with keys := f.keys ++ [(s.a, s.b)] } := ⟨_, rfl⟩
  have hres : swSee M f = toF fk 3 := by unfold swSee; rw [if_pos hat, if_pos hk5]; unfold swKeys; rw [if_pos hkl, hj, hfk, hs]; rfl
  rw [hres]
  have HNt : Hid (∀ W : World, Lk w W B lo (some ⟨gS, 0, none⟩) aH aF aL cS cH cF cL M f aK cK → Calls Try.prog 72 #[.agg #[.int .i64 f.c.kind, .int .i64 f.c.a, .int .i64 f.c.b, .int .i64 f.c.time, .int .i64 f.c.bk, .int .i64 f.c.slot, .int .i64 f.pl, .int .i64 f.cur, .int .i64 f.prev, .int .i64 f.slot, .int .i64 f.n, .slice aK f.keys.length cK, .bool f.done, .int .i64 f.e], .agg #[.int .i64 s.a, .int .i64 s.b]] W fun e w' => ∃ a c, e = .returned (.agg #[.int .i64 fk.c.kind, .int .i64 fk.c.a, .int .i64 fk.c.b, .int .i64 fk.c.time, .int .i64 fk.c.bk, .int .i64 fk.c.slot, .int .i64 fk.pl, .int .i64 fk.cur, .int .i64 fk.prev, .int .i64 fk.slot, .int .i64 fk.n, .slice a fk.keys.length c, .bool fk.done, .int .i64 fk.e]) ∧ KOwn w' (w.heap.size + 2) a c fk.keys ∧ Lk w w' B lo (some ⟨gS, 0, none⟩) aH aF aL cS cH cF cL M f aK cK) := fun W h => by
    have := note_more f s.a s.b aK cK W (HR.out.below h.bl) hkl
    rw [← hfk] at this
    refine this.mono ?_
    rintro e w' ⟨a, c, h1, h2, h3⟩
    refine ⟨a, c, h1, ?_, h.below h3⟩
    rw [hfk]
    exact h2.le (lt_of_block h.zb)
  have HX : Hid (∀ W, Mine W B lo (some ⟨gS, 0, none⟩) aH aF aL cS cH cF cL M → W.cell? ⟨gS, j * 6 + 1, none⟩ = some (.int .i64 s.a) ∧ W.cell? ⟨gS, j * 6 + 2, none⟩ = some (.int .i64 s.b) ∧ W.cell? ⟨gS, j * 6 + 3, none⟩ = some (.int .i64 s.unt)) := fun W m' => ⟨(slotAt_cells m'.c.s hjl hs).2.1, (slotAt_cells m'.c.s hjl hs).2.2.1, (slotAt_cells m'.c.s hjl hs).2.2.2.1⟩
  have HSt : Hid (∀ (W : World), Lk w W B lo (some ⟨gS, 0, none⟩) aH aF aL cS cH cF cL M f aK cK → Calls Try.prog 71 #[.pointer (some ⟨B, 0, none⟩), .agg #[.int .i64 f.c.kind, .int .i64 f.c.a, .int .i64 f.c.b, .int .i64 f.c.time, .int .i64 f.c.bk, .int .i64 f.c.slot, .int .i64 f.pl, .int .i64 f.cur, .int .i64 f.prev, .int .i64 f.slot, .int .i64 f.n, .slice aK f.keys.length cK, .bool f.done, .int .i64 f.e]] W fun e w' => e = .returned (.tuple #[.int .i64 ((j : Int)), .bool true]) ∧ Lk w w' B lo (some ⟨gS, 0, none⟩) aH aF aL cS cH cF cL M f aK cK) := fun W h => by
    have := standsAt_any M f B _ _ _ _ cS cH cF cL aK cK W h.m.box hc1 hn1
    rw [hst, hat] at this
    exact this.mono (fun e w' h' => ⟨h'.1, h.below h'.2⟩)
  have e5 : (f.c.kind == 5) = true := by rw [beq_iff_eq]; exact hk5
  have HZ : Hid (∀ ad, aK = some ad → ¬ (Foot B (some ⟨gS, 0, none⟩) aH aF aL) ad.block) := hz
  obtain ⟨of, hof⟩ : ∃ o : Obj, o = .cells #[.int .i64 f.c.kind, .int .i64 f.c.a, .int .i64 f.c.b, .int .i64 f.c.time, .int .i64 f.c.bk, .int .i64 f.c.slot, .int .i64 f.pl, .int .i64 f.cur, .int .i64 f.prev, .int .i64 f.slot, .int .i64 f.n, .slice aK f.keys.length cK, .bool f.done, .int .i64 f.e] 33 := ⟨_, rfl⟩
  obtain ⟨oz, hoz⟩ : ∃ o : Obj, o = zeroFr := ⟨_, rfl⟩
  have HE : Hid (Lk w ((w.alloc of).alloc oz) B lo (some ⟨gS, 0, none⟩) aH aF aL cS cH cF cL M f aK cK) := Lk.first m f aK cK hof hoz
  obtain ⟨q0, q1, q2, q3, q4, -, -, -, -, -, qs⟩ := boxf HE.out.m.box
  obtain ⟨f0, f1, f2, f3, f4, f5, f6, f7, f8, f9, f10, f11, f12, f13, ff, fs⟩ := framef HE.out.fb
  unfold zeroFr at hoz
  clear m hc1 hn1 hcur hns hnh hM hf r hz hres hs hst hat h1 hk5 hj hkl hfk
  go_enter Try.func34, Try.ntmps34
  go_wp2_with fail
  rw [← hof, ← hoz]
  generalize (w.alloc of).alloc oz = W0 at *
  subst hof hoz
  clear q0 q1 q2 q3 q4 qs
  clear f0 f1 f2 f3 f4 f5 f6 f7 f8 f9 f10 f11 f12 f13 ff fs
  refine (HSt.out _ (by exact HE.out.below ⟨rfl, rfl, rfl, Nat.le_refl _, fun _ _ => rfl⟩)).mono ?_
  rintro e w1 ⟨rfl, h9⟩
  have HE1 : Hid (Lk w w1 B lo (some ⟨gS, 0, none⟩) aH aF aL cS cH cF cL M f aK cK) := h9
  clear HE h9
  obtain ⟨q0, q1, q2, q3, q4, -, -, -, -, -, qs⟩ := boxf HE1.out.m.box
  obtain ⟨f0, f1, f2, f3, f4, f5, f6, f7, f8, f9, f10, f11, f12, f13, ff, fs⟩ := framef HE1.out.fb
  obtain ⟨x1, x2, x3⟩ := HX.out w1 HE1.out.m
  go_wp2_with fail
  go_region_with (first | (go_at_call 72; refine (HNt.out _ (by exact HE1.out.below ⟨rfl, rfl, rfl, Nat.le_refl _, fun _ _ => rfl⟩)).mono ?_; rintro e w2 ⟨a2, c2, rfl, hk2, h9⟩; have HE2 : Hid (Lk w w2 B lo (some ⟨gS, 0, none⟩) aH aF aL cS cH cF cL M f aK cK) := h9; have HK2 : Hid (KOwn w2 (w.heap.size + 2) a2 c2 fk.keys) := hk2; clear h9 hk2) | (go_at_call 69; refine (to_any fk 3 a2 c2 _).mono ?_; rintro e w3 ⟨rfl, hb3⟩; have HE3 : Hid (Lk w w3 B lo (some ⟨gS, 0, none⟩) aH aF aL cS cH cF cL M f aK cK) := HE2.out.below hb3; have HK3 : Hid (KOwn w3 (w.heap.size + 2) a2 c2 fk.keys) := HK2.out.below hb3; clear hb3; obtain ⟨g0, g1, g2, g3, g4, g5, g6, g7, g8, g9, g10, g11, g12, g13, gf, gs⟩ := framef HE3.out.zb))
  all_goals
    clear q0 q1 q2 q3 q4 qs
    clear f0 f1 f2 f3 f4 f5 f6 f7 f8 f9 f10 f11 f12 f13 ff fs
    go_wp2
    refine bodyPost_ret (v := .agg #[.int .i64 (toF fk 3).c.kind, .int .i64 (toF fk 3).c.a, .int .i64 (toF fk 3).c.b, .int .i64 (toF fk 3).c.time, .int .i64 (toF fk 3).c.bk, .int .i64 (toF fk 3).c.slot, .int .i64 (toF fk 3).pl, .int .i64 (toF fk 3).cur, .int .i64 (toF fk 3).prev, .int .i64 (toF fk 3).slot, .int .i64 (toF fk 3).n, .slice a2 (toF fk 3).keys.length c2, .bool (toF fk 3).done, .int .i64 (toF fk 3).e]) (by simp [results, Try.results34, go_sem, toF, g0, g1, g2, g3, g4, g5, g6, g7, g8, g9, g10, g11, g12, g13]) rfl ⟨⟨a2, c2, rfl, HK3.out.end14⟩, HE3.out.two.end14⟩

theorem sw_see_any (M : Mm) (f : Fr) (B lo : Nat) (aS aH aF aL : Option Addr) (cS cH cF cL : Nat) (aK : Option Addr) (cK : Nat) (hM : Ok M) (hf : Fit M f) (hk : f.c.kind = 4 ∨ f.c.kind = 5) (hz : ∀ ad, aK = some ad → ¬ Foot B aS aH aF aL ad.block) :
    ((swSee M f).keys = f.keys ∧ ∀ W : World, Mine W B lo aS aH aF aL cS cH cF cL M → KRow W aK cK f.keys → Calls Try.prog 34 #[.pointer (some ⟨B, 0, none⟩), .agg #[.int .i64 f.c.kind, .int .i64 f.c.a, .int .i64 f.c.b, .int .i64 f.c.time, .int .i64 f.c.bk, .int .i64 f.c.slot, .int .i64 f.pl, .int .i64 f.cur, .int .i64 f.prev, .int .i64 f.slot, .int .i64 f.n, .slice aK f.keys.length cK, .bool f.done, .int .i64 f.e]] W fun e w' => Ret W w' e (swSee M f) aK cK ∧ Has w' B lo (Up W (Foot B aS aH aF aL)) M ∧ Fine W w' (Foot B aS aH aF aL)) ∨ (∀ W : World, Mine W B lo aS aH aF aL cS cH cF cL M → KRow W aK cK f.keys → Calls Try.prog 34 #[.pointer (some ⟨B, 0, none⟩), .agg #[.int .i64 f.c.kind, .int .i64 f.c.a, .int .i64 f.c.b, .int .i64 f.c.time, .int .i64 f.c.bk, .int .i64 f.c.slot, .int .i64 f.pl, .int .i64 f.cur, .int .i64 f.prev, .int .i64 f.slot, .int .i64 f.n, .slice aK f.keys.length cK, .bool f.done, .int .i64 f.e]] W fun e w' => RetO W w' e (swSee M f) ∧ Has w' B lo (Up W (Foot B aS aH aF aL)) M ∧ Fine W w' (Foot B aS aH aF aL)) := by
  by_cases hat : isAt M f = true
  · rcases hk with hk | hk
    · refine .inl ⟨?_, fun W m r => sw_see_four M f B lo aS aH aF aL cS cH cF cL aK cK W m hM hf r hz hk hat⟩
      unfold swSee
      rw [if_pos hat, if_neg (by omega)]
      split <;> rfl
    · by_cases hkl : f.keys.length < 100
      · exact .inr fun W m r => sw_see_list M f B lo aS aH aF aL cS cH cF cL aK cK W m hM hf r hz hk hat hkl
      · refine .inl ⟨?_, fun W m r => sw_see_full M f B lo aS aH aF aL cS cH cF cL aK cK W m hM hf r hz hk hat hkl⟩
        unfold swSee swKeys
        rw [if_pos hat, if_pos hk, if_neg hkl]
  · refine .inl ⟨?_, fun W m r => sw_see_no M f B lo aS aH aF aL cS cH cF cL aK cK W m hM hf r hz hk hat⟩
    unfold swSee
    rw [if_neg hat]
    rfl
end Go.Proofs.Ytdbilofhcadmoac.mm
