/- The contracts of add's parts that change memory: link, refuse. -/
import Derived.Test.YtdbilofhcadmoabC21
import Derived.Test.YtdbilofhcadmoabC25
namespace Go.Proofs.Ytdbilofhcadmoab.mm
open Go.ChangeShapes Go.WideShapes Go.ChangeAt Go.RowKit Go.Joins Go.Deep Go.Sort
set_option maxRecDepth 100000
set_option linter.unusedVariables false

set_option maxHeartbeats 3200000 in
theorem ad_link (M : Mm) (f : Fr) (B lo : Nat) (aS aH aF aL : Option Addr) (cS cH cF cL : Nat) (aK : Option Addr) (cK : Nat) (w : World)
    (m : Mine w B lo aS aH aF aL cS cH cF cL M) (hM : Ok M) (hf : Fit M f) (r : KRow w aK cK f.keys) (hz : ∀ ad, aK = some ad → ¬ Foot B aS aH aF aL ad.block) :
    Calls Try.prog 117 #[.pointer (some ⟨B, 0, none⟩), .agg #[.int .i64 f.c.kind, .int .i64 f.c.a, .int .i64 f.c.b, .int .i64 f.c.time, .int .i64 f.c.bk, .int .i64 f.c.slot, .int .i64 f.pl, .int .i64 f.cur, .int .i64 f.prev, .int .i64 f.slot, .int .i64 f.n, .slice aK f.keys.length cK, .bool f.done, .int .i64 f.e]] w fun e w' => Ret w w' e (adLink M f) aK cK ∧ Has w' B lo (Up w (Foot B aS aH aF aL)) (adLinkM M f) ∧ Fine w w' (Foot B aS aH aF aL) := by
  have hns := hM.ns
  have hnh := hM.nh.2
  have hcur := hf.cur.2
  have hc1 : f.cur ≤ 1000 := by omega
  have hn1 : M.slots.length ≤ 1000 := by omega
  have HOk : Hid (Ok M) := hM
  have HR : Hid (KRow w aK cK f.keys) := r
  obtain ⟨b0, b1⟩ := bkOf_in hM hf.call
  obtain ⟨b, hb⟩ : ∃ b : Nat, bkOf M.heads.length f.c = b := ⟨_, (Int.toNat_of_nonneg b0).symm⟩
  have hbl : b < M.heads.length := by omega
  have hbn : bkN M f = b := by unfold bkN; rw [hb]; rfl
  cases hsl : isSl M f.slot
  · have hres : adLink M f = lateF f := by unfold adLink; rw [hsl]; rfl
    have hresM : adLinkM M f = M := by unfold adLinkM; rw [hsl]; rfl
    rw [hres, hresM]
    have hsl' : inB f.slot 0 ((M.slots.length : Int) - 1) = false := hsl
    have HBk : Hid (∀ W : World, Calls Try.prog 31 #[.agg #[.slice aS M.slots.length cS, .slice aH M.heads.length cH, .slice aF M.free.length cF, .slice aL M.locks.length cL, .int .i64 M.now], .agg #[.int .i64 f.c.kind, .int .i64 f.c.a, .int .i64 f.c.b, .int .i64 f.c.time, .int .i64 f.c.bk, .int .i64 f.c.slot]] W fun e w' => e = .returned (.int .i64 (b : Int)) ∧ Below W.heap.size W w') := fun W => hb ▸ frBucket_any _ _ _ _ _ _ _ _ cS cH cF cL M.now f.c W (by omega)
    have HHs : Hid (∀ W : World, Calls Try.prog 78 #[.agg #[.slice aS M.slots.length cS, .slice aH M.heads.length cH, .slice aF M.free.length cF, .slice aL M.locks.length cL, .int .i64 M.now], .int .i64 f.slot] W fun e w' => e = .returned (.bool false) ∧ Below W.heap.size W w') := fun W => hsl' ▸ isSlot_any _ _ _ _ _ _ _ _ cS cH cF cL M.now _ W (by omega)
    have HZ : Hid (∀ ad, aK = some ad → ¬ (Foot B aS aH aF aL) ad.block) := hz
    obtain ⟨of, hof⟩ : ∃ o : Obj, o = .cells #[.int .i64 f.c.kind, .int .i64 f.c.a, .int .i64 f.c.b, .int .i64 f.c.time, .int .i64 f.c.bk, .int .i64 f.c.slot, .int .i64 f.pl, .int .i64 f.cur, .int .i64 f.prev, .int .i64 f.slot, .int .i64 f.n, .slice aK f.keys.length cK, .bool f.done, .int .i64 f.e] 51 := ⟨_, rfl⟩
    obtain ⟨oz, hoz⟩ : ∃ o : Obj, o = zeroFr := ⟨_, rfl⟩
    have HE : Hid (Lk w ((w.alloc of).alloc oz) B lo aS aH aF aL cS cH cF cL M f aK cK) := Lk.first m f aK cK hof hoz
    obtain ⟨q0, q1, q2, q3, q4, -, -, -, -, -, qs⟩ := boxf HE.out.m.box
    obtain ⟨f0, f1, f2, f3, f4, f5, f6, f7, f8, f9, f10, f11, f12, f13, ff, fs⟩ := framef HE.out.fb
    unfold zeroFr at hoz
    clear m hc1 hn1 hcur hns hnh hM hf r hz hsl hsl' hres hresM hbn hb b0 b1
    go_enter Try.func117, Try.ntmps117
    go_wp2_with fail
    rw [← hof, ← hoz]
    generalize (w.alloc of).alloc oz = W0 at *
    subst hof hoz
    have cB : ∀ (d : Nat) (os : Array Obj), Calls Try.prog 31 #[.agg #[.slice aS M.slots.length cS, .slice aH M.heads.length cH, .slice aF M.free.length cF, .slice aL M.locks.length cL, .int .i64 M.now], .agg #[.int .i64 f.c.kind, .int .i64 f.c.a, .int .i64 f.c.b, .int .i64 f.c.time, .int .i64 f.c.bk, .int .i64 f.c.slot]] (grow (redrawn W0 d) os) fun e w'' => e = .returned (.int .i64 (b : Int)) ∧ ∃ p : Regrown, w'' = grow (redrawn W0 p.d) p.os := fun d os => Calls.regrown_of (HBk.out _)
    have Xq0 := cell_regrown q0
    have Xq1 := cell_regrown q1
    have Xq2 := cell_regrown q2
    have Xq3 := cell_regrown q3
    have Xq4 := cell_regrown q4
    have Xf0 := cell_regrown f0
    have Xf1 := cell_regrown f1
    have Xf2 := cell_regrown f2
    have Xf3 := cell_regrown f3
    have Xf4 := cell_regrown f4
    have Xf5 := cell_regrown f5
    clear q0 q1 q2 q3 q4 qs
    clear f0 f1 f2 f3 f4 f5 f6 f7 f8 f9 f10 f11 f12 f13 ff fs
    refine wp_region_quiet_below (by kernel_rfl) (by kernel_rfl) ?_
    repeat (quiet_step (first | exact cB _ _))
    refine wpQuiet_nil ?_
    intro _ hw'
    obtain ⟨⟨dq, osq⟩, hw''⟩ := hw'
    subst hw''
    have HE1 : Hid (Lk w (grow (redrawn W0 dq) osq) B lo aS aH aF aL cS cH cF cL M f aK cK) := HE.out.below (below_regrown W0 dq osq)
    generalize grow (redrawn W0 dq) osq = w1 at *
    clear Xq0 Xq1 Xq2 Xq3 Xq4 Xf0 Xf1 Xf2 Xf3 Xf4 Xf5 HE
    clear cB
    obtain ⟨q0, q1, q2, q3, q4, -, -, -, -, -, qs⟩ := boxf HE1.out.m.box
    obtain ⟨f0, f1, f2, f3, f4, f5, f6, f7, f8, f9, f10, f11, f12, f13, ff, fs⟩ := framef HE1.out.fb
    go_wp2_with fail
    have kH : ∀ (d : Nat) (os : Array Obj), Calls Try.prog 78 #[.agg #[.slice aS M.slots.length cS, .slice aH M.heads.length cH, .slice aF M.free.length cF, .slice aL M.locks.length cL, .int .i64 M.now], .int .i64 f.slot] (grow (redrawn w1 d) os) fun e w'' => e = .returned (.bool false) ∧ ∃ p : Regrown, w'' = grow (redrawn w1 p.d) p.os := fun d os => Calls.regrown_of (HHs.out _)
    have Xq0 := cell_regrown q0
    have Xq1 := cell_regrown q1
    have Xq2 := cell_regrown q2
    have Xq3 := cell_regrown q3
    have Xq4 := cell_regrown q4
    have Xf9 := cell_regrown f9
    clear q0 q1 q2 q3 q4 qs
    clear f0 f1 f2 f3 f4 f5 f6 f7 f8 f9 f10 f11 f12 f13 ff fs
    refine wp_region_quiet_below (by kernel_rfl) (by kernel_rfl) ?_
    repeat (quiet_step (first | exact kH _ _))
    refine wpQuiet_nil ?_
    intro _ hw'
    obtain ⟨⟨dq, osq⟩, hw''⟩ := hw'
    subst hw''
    have HE2 : Hid (Lk w (grow (redrawn w1 dq) osq) B lo aS aH aF aL cS cH cF cL M f aK cK) := HE1.out.below (below_regrown w1 dq osq)
    generalize grow (redrawn w1 dq) osq = w2 at *
    clear Xq0 Xq1 Xq2 Xq3 Xq4 Xf9 HE1
    clear kH
    obtain ⟨q0, q1, q2, q3, q4, -, -, -, -, -, qs⟩ := boxf HE2.out.m.box
    obtain ⟨f0, f1, f2, f3, f4, f5, f6, f7, f8, f9, f10, f11, f12, f13, ff, fs⟩ := framef HE2.out.fb
    go_wp2_with fail
    clear q0 q1 q2 q3 q4 qs
    have HE3 : Hid (Lk2 w _ (Foot B aS aH aF aL) B lo M f aK cK) := HE2.out.two
    clear HE2
    refine (late_any f aK cK _).mono ?_
    rintro e w9 ⟨rfl, hb9⟩
    have HE9 : Hid (Lk2 w w9 (Foot B aS aH aF aL) B lo M f aK cK) := HE3.out.below hb9
    clear HE3 hb9
    clear f0 f1 f2 f3 f4 f5 f6 f7 f8 f9 f10 f11 f12 f13 ff fs
    obtain ⟨g0, g1, g2, g3, g4, g5, g6, g7, g8, g9, g10, g11, g12, g13, gf, gs⟩ := framef HE9.out.zb
    go_wp2
    refine bodyPost_ret (v := .agg #[.int .i64 (lateF f).c.kind, .int .i64 (lateF f).c.a, .int .i64 (lateF f).c.b, .int .i64 (lateF f).c.time, .int .i64 (lateF f).c.bk, .int .i64 (lateF f).c.slot, .int .i64 (lateF f).pl, .int .i64 (lateF f).cur, .int .i64 (lateF f).prev, .int .i64 (lateF f).slot, .int .i64 (lateF f).n, .slice aK (lateF f).keys.length cK, .bool (lateF f).done, .int .i64 (lateF f).e]) (by simp [results, Try.results117, go_sem, lateF, g0, g1, g2, g3, g4, g5, g6, g7, g8, g9, g10, g11, g12, g13]) rfl ⟨⟨aK, cK, rfl, HR.out.fine HE9.out.end14.2 HZ.out, (fun ad h => .inl h), fun _ => ⟨rfl, rfl⟩⟩, HE9.out.end14⟩
  · obtain ⟨j, hj, hjl⟩ := (isSl_iff M f.slot).1 hsl
    have hres : adLink M f = { f with e := 0, pl := 7 } := by unfold adLink; rw [hsl]; rfl
    have hresM : adLinkM M f = linkB M j b := by unfold adLinkM; rw [hsl, hbn, hj]; rfl
    rw [hres, hresM]
    have hsl' : inB (j : Int) 0 ((M.slots.length : Int) - 1) = true := (inB_iff _ _ _).2 (by omega)
    have HJ : Hid (f.slot = j) := hj
    have HBk : Hid (∀ W : World, Calls Try.prog 31 #[.agg #[.slice aS M.slots.length cS, .slice aH M.heads.length cH, .slice aF M.free.length cF, .slice aL M.locks.length cL, .int .i64 M.now], .agg #[.int .i64 f.c.kind, .int .i64 f.c.a, .int .i64 f.c.b, .int .i64 f.c.time, .int .i64 f.c.bk, .int .i64 f.c.slot]] W fun e w' => e = .returned (.int .i64 (b : Int)) ∧ Below W.heap.size W w') := fun W => hb ▸ frBucket_any _ _ _ _ _ _ _ _ cS cH cF cL M.now f.c W (by omega)
    have HCh : Hid (∀ W : World, Calls Try.prog 75 #[.agg #[.slice aS M.slots.length cS, .slice aH M.heads.length cH, .slice aF M.free.length cF, .slice aL M.locks.length cL, .int .i64 M.now], .int .i64 (b : Int)] W fun e w' => e = .returned (.bool true) ∧ Below W.heap.size W w') := fun W => (show inB (b : Int) 0 ((M.heads.length : Int) - 1) = true from (inB_iff _ _ _).2 (by omega)) ▸ hasChain_any _ _ _ _ _ _ _ _ cS cH cF cL M.now (b : Int) W (by omega)
    have HHs : Hid (∀ W : World, Calls Try.prog 78 #[.agg #[.slice aS M.slots.length cS, .slice aH M.heads.length cH, .slice aF M.free.length cF, .slice aL M.locks.length cL, .int .i64 M.now], .int .i64 (j : Int)] W fun e w' => e = .returned (.bool true) ∧ Below W.heap.size W w') := fun W => hsl' ▸ isSlot_any _ _ _ _ _ _ _ _ cS cH cF cL M.now _ W (by omega)
    have HLk : Hid (∀ W : World, Lk w W B lo aS aH aF aL cS cH cF cL M f aK cK → Calls Try.prog 80 #[.pointer (some ⟨B, 0, none⟩), .int .i64 (b : Int), .int .i64 (j : Int)] W fun e w' => e = .returned (.tuple #[]) ∧ Lk2 w w' (Foot B aS aH aF aL) B lo (linkB M j b) f aK cK) := fun W h => (link_fine ⟨_, _, _, _, _, _, _, _, h.m, fun _ h => h⟩ HOk.out hjl hbl).mono (fun e w' h' => ⟨h'.1, h.after h'.2.1 h'.2.2⟩)
    generalize linkB M j b = M' at *
    have HZ : Hid (∀ ad, aK = some ad → ¬ (Foot B aS aH aF aL) ad.block) := hz
    obtain ⟨of, hof⟩ : ∃ o : Obj, o = .cells #[.int .i64 f.c.kind, .int .i64 f.c.a, .int .i64 f.c.b, .int .i64 f.c.time, .int .i64 f.c.bk, .int .i64 f.c.slot, .int .i64 f.pl, .int .i64 f.cur, .int .i64 f.prev, .int .i64 f.slot, .int .i64 f.n, .slice aK f.keys.length cK, .bool f.done, .int .i64 f.e] 51 := ⟨_, rfl⟩
    obtain ⟨oz, hoz⟩ : ∃ o : Obj, o = zeroFr := ⟨_, rfl⟩
    have HE : Hid (Lk w ((w.alloc of).alloc oz) B lo aS aH aF aL cS cH cF cL M f aK cK) := Lk.first m f aK cK hof hoz
    obtain ⟨q0, q1, q2, q3, q4, -, -, -, -, -, qs⟩ := boxf HE.out.m.box
    obtain ⟨f0, f1, f2, f3, f4, f5, f6, f7, f8, f9, f10, f11, f12, f13, ff, fs⟩ := framef HE.out.fb
    unfold zeroFr at hoz
    clear m hc1 hn1 hcur hns hnh hM hf r hz hsl hsl' hres hresM hbn hb b0 b1 hj
    go_enter Try.func117, Try.ntmps117
    go_wp2_with fail
    rw [← hof, ← hoz]
    generalize (w.alloc of).alloc oz = W0 at *
    subst hof hoz
    have cB : ∀ (d : Nat) (os : Array Obj), Calls Try.prog 31 #[.agg #[.slice aS M.slots.length cS, .slice aH M.heads.length cH, .slice aF M.free.length cF, .slice aL M.locks.length cL, .int .i64 M.now], .agg #[.int .i64 f.c.kind, .int .i64 f.c.a, .int .i64 f.c.b, .int .i64 f.c.time, .int .i64 f.c.bk, .int .i64 f.c.slot]] (grow (redrawn W0 d) os) fun e w'' => e = .returned (.int .i64 (b : Int)) ∧ ∃ p : Regrown, w'' = grow (redrawn W0 p.d) p.os := fun d os => Calls.regrown_of (HBk.out _)
    have Xq0 := cell_regrown q0
    have Xq1 := cell_regrown q1
    have Xq2 := cell_regrown q2
    have Xq3 := cell_regrown q3
    have Xq4 := cell_regrown q4
    have Xf0 := cell_regrown f0
    have Xf1 := cell_regrown f1
    have Xf2 := cell_regrown f2
    have Xf3 := cell_regrown f3
    have Xf4 := cell_regrown f4
    have Xf5 := cell_regrown f5
    clear q0 q1 q2 q3 q4 qs
    clear f0 f1 f2 f3 f4 f5 f6 f7 f8 f9 f10 f11 f12 f13 ff fs
    refine wp_region_quiet_below (by kernel_rfl) (by kernel_rfl) ?_
    repeat (quiet_step (first | exact cB _ _))
    refine wpQuiet_nil ?_
    intro _ hw'
    obtain ⟨⟨dq, osq⟩, hw''⟩ := hw'
    subst hw''
    have HE1 : Hid (Lk w (grow (redrawn W0 dq) osq) B lo aS aH aF aL cS cH cF cL M f aK cK) := HE.out.below (below_regrown W0 dq osq)
    generalize grow (redrawn W0 dq) osq = w1 at *
    clear Xq0 Xq1 Xq2 Xq3 Xq4 Xf0 Xf1 Xf2 Xf3 Xf4 Xf5 HE
    clear cB
    obtain ⟨q0, q1, q2, q3, q4, -, -, -, -, -, qs⟩ := boxf HE1.out.m.box
    obtain ⟨f0, f1, f2, f3, f4, f5, f6, f7, f8, f9, f10, f11, f12, f13, ff, fs⟩ := framef HE1.out.fb
    go_wp2_with fail
    rw [HJ.out] at f9
    have kH : ∀ (d : Nat) (os : Array Obj), Calls Try.prog 78 #[.agg #[.slice aS M.slots.length cS, .slice aH M.heads.length cH, .slice aF M.free.length cF, .slice aL M.locks.length cL, .int .i64 M.now], .int .i64 (j : Int)] (grow (redrawn w1 d) os) fun e w'' => e = .returned (.bool true) ∧ ∃ p : Regrown, w'' = grow (redrawn w1 p.d) p.os := fun d os => Calls.regrown_of (HHs.out _)
    have kC : ∀ (d : Nat) (os : Array Obj), Calls Try.prog 75 #[.agg #[.slice aS M.slots.length cS, .slice aH M.heads.length cH, .slice aF M.free.length cF, .slice aL M.locks.length cL, .int .i64 M.now], .int .i64 (b : Int)] (grow (redrawn w1 d) os) fun e w'' => e = .returned (.bool true) ∧ ∃ p : Regrown, w'' = grow (redrawn w1 p.d) p.os := fun d os => Calls.regrown_of (HCh.out _)
    have Xq0 := cell_regrown q0
    have Xq1 := cell_regrown q1
    have Xq2 := cell_regrown q2
    have Xq3 := cell_regrown q3
    have Xq4 := cell_regrown q4
    have Xf9 := cell_regrown f9
    clear q0 q1 q2 q3 q4 qs
    clear f0 f1 f2 f3 f4 f5 f6 f7 f8 f9 f10 f11 f12 f13 ff fs
    refine wp_region_quiet_below (by kernel_rfl) (by kernel_rfl) ?_
    repeat (quiet_step (first | exact kH _ _ | exact kC _ _))
    refine wpQuiet_nil ?_
    intro _ hw'
    obtain ⟨⟨dq, osq⟩, hw''⟩ := hw'
    subst hw''
    have HE2 : Hid (Lk w (grow (redrawn w1 dq) osq) B lo aS aH aF aL cS cH cF cL M f aK cK) := HE1.out.below (below_regrown w1 dq osq)
    generalize grow (redrawn w1 dq) osq = w2 at *
    clear Xq0 Xq1 Xq2 Xq3 Xq4 Xf9 HE1
    clear kH kC
    obtain ⟨q0, q1, q2, q3, q4, -, -, -, -, -, qs⟩ := boxf HE2.out.m.box
    obtain ⟨f0, f1, f2, f3, f4, f5, f6, f7, f8, f9, f10, f11, f12, f13, ff, fs⟩ := framef HE2.out.fb
    rw [HJ.out] at f9
    go_wp2_with fail
    clear q0 q1 q2 q3 q4 qs
    clear f0 f1 f2 f3 f4 f5 f6 f7 f8 f9 f10 f11 f12 f13 ff fs
    refine (HLk.out _ (by exact HE2.out.below ⟨rfl, rfl, rfl, Nat.le_refl _, fun _ _ => rfl⟩)).mono ?_
    rintro e w3 ⟨rfl, h9⟩
    have HE3 : Hid (Lk2 w w3 (Foot B aS aH aF aL) B lo M' f aK cK) := h9
    clear HE2 h9
    obtain ⟨f0, f1, f2, f3, f4, f5, f6, f7, f8, f9, f10, f11, f12, f13, ff, fs⟩ := framef HE3.out.fb
    go_wp2_with fail
    have HE4 : Hid (Lk2 w _ (Foot B aS aH aF aL) B lo M' { f with e := 0 } aK cK) := HE3.out.store 13 (.int .i64 0) { f with e := 0 } rfl
    clear HE3
    refine (to_any { f with e := 0 } 7 aK cK _).mono ?_
    rintro e w9 ⟨rfl, hb9⟩
    have HE9 : Hid (Lk2 w w9 (Foot B aS aH aF aL) B lo M' { f with e := 0 } aK cK) := HE4.out.below hb9
    clear HE4 hb9
    clear f0 f1 f2 f3 f4 f5 f6 f7 f8 f9 f10 f11 f12 f13 ff fs
    obtain ⟨g0, g1, g2, g3, g4, g5, g6, g7, g8, g9, g10, g11, g12, g13, gf, gs⟩ := framef HE9.out.zb
    go_wp2
    refine bodyPost_ret (v := .agg #[.int .i64 ({ f with e := 0, pl := 7 }).c.kind, .int .i64 ({ f with e := 0, pl := 7 }).c.a, .int .i64 ({ f with e := 0, pl := 7 }).c.b, .int .i64 ({ f with e := 0, pl := 7 }).c.time, .int .i64 ({ f with e := 0, pl := 7 }).c.bk, .int .i64 ({ f with e := 0, pl := 7 }).c.slot, .int .i64 ({ f with e := 0, pl := 7 }).pl, .int .i64 ({ f with e := 0, pl := 7 }).cur, .int .i64 ({ f with e := 0, pl := 7 }).prev, .int .i64 ({ f with e := 0, pl := 7 }).slot, .int .i64 ({ f with e := 0, pl := 7 }).n, .slice aK ({ f with e := 0, pl := 7 }).keys.length cK, .bool ({ f with e := 0, pl := 7 }).done, .int .i64 ({ f with e := 0, pl := 7 }).e]) (by simp [results, Try.results117, go_sem, toF, g0, g1, g2, g3, g4, g5, g6, g7, g8, g9, g10, g11, g12, g13]) rfl ⟨⟨aK, cK, rfl, HR.out.fine HE9.out.end14.2 HZ.out, (fun ad h => .inl h), fun _ => ⟨rfl, rfl⟩⟩, HE9.out.end14⟩

end Go.Proofs.Ytdbilofhcadmoab.mm
