/- The contract of drop's part cut. -/
import Derived.Test.YtdbilofhcadmoabEc13
import Derived.Test.YtdbilofhcadmoabEc20
import Derived.Test.YtdbilofhcadmoabEc15
import Derived.Test.YtdbilofhcadmoabEc12
namespace Go.Proofs.Ytdbilofhcadmoab.mm
open Go.ChangeShapes Go.WideShapes Go.ChangeAt Go.RowKit Go.Joins Go.Deep Go.Sort
set_option maxRecDepth 100000
set_option linter.unusedVariables false

set_option maxHeartbeats 3200000 in
theorem dr_cut (M : Mm) (f : Fr) (B lo : Nat) (aS aH aF aL : Option Addr) (cS cH cF cL : Nat) (aK : Option Addr) (cK : Nat) (w : World)
    (m : Mine w B lo aS aH aF aL cS cH cF cL M) (hM : Ok M) (hf : Fit M f) (r : KRow w aK cK f.keys) (hz : ∀ ad, aK = some ad → ¬ Foot B aS aH aF aL ad.block) :
    Calls Try.prog 133 #[.pointer (some ⟨B, 0, none⟩), .agg #[.int .i64 f.c.kind, .int .i64 f.c.a, .int .i64 f.c.b, .int .i64 f.c.time, .int .i64 f.c.bk, .int .i64 f.c.slot, .int .i64 f.pl, .int .i64 f.cur, .int .i64 f.prev, .int .i64 f.slot, .int .i64 f.n, .slice aK f.keys.length cK, .bool f.done, .int .i64 f.e]] w fun e w' => Ret w w' e (drCut M f) aK cK ∧ Has w' B lo (Up w (Foot B aS aH aF aL)) (drCutM M f) ∧ Fine w w' (Foot B aS aH aF aL) := by
  have hns := hM.ns
  have hnh := hM.nh.2
  have hcur := hf.cur.2
  have hc1 : f.cur ≤ 1000 := by omega
  have hn1 : M.slots.length ≤ 1000 := by omega
  have HOk : Hid (Ok M) := hM
  have HR : Hid (KRow w aK cK f.keys) := r
  obtain ⟨b0, b1⟩ := bkOf_in hM hf.call
  obtain ⟨b, hb⟩ : ∃ b : Nat, bkOf M.heads.length f.c = b := ⟨_, (Int.toNat_of_nonneg b0).symm⟩
  have hbl : b < M.heads.length := by omega
  have hbn : bkN M f = b := by unfold bkN; rw [hb]; rfl
  have HBk : Hid (∀ W : World, Lk w W B lo aS aH aF aL cS cH cF cL M f aK cK → Calls Try.prog 31 #[.agg #[.slice aS M.slots.length cS, .slice aH M.heads.length cH, .slice aF M.free.length cF, .slice aL M.locks.length cL, .int .i64 M.now], .agg #[.int .i64 f.c.kind, .int .i64 f.c.a, .int .i64 f.c.b, .int .i64 f.c.time, .int .i64 f.c.bk, .int .i64 f.c.slot]] W fun e w' => e = .returned (.int .i64 (b : Int)) ∧ Lk w w' B lo aS aH aF aL cS cH cF cL M f aK cK) := fun W h => (hb ▸ frBucket_any _ _ _ _ _ _ _ _ cS cH cF cL M.now f.c W (by omega) : Calls Try.prog 31 _ W fun e w' => e = .returned (.int .i64 (b : Int)) ∧ Below W.heap.size W w').mono (fun e w' h' => ⟨h'.1, h.below h'.2⟩)
  by_cases hat : isAt M f = true
  · have h1 := isAt_iff.1 hat
    obtain ⟨j, hj⟩ : ∃ j : Nat, f.cur = (j : Int) + 1 := ⟨(f.cur - 1).toNat, by omega⟩
    have hjl : j < M.slots.length := by omega
    have hj1 : f.cur - 1 = (j : Int) := by omega
    have hres : drCut M f = { f with slot := (j : Int), e := 0, pl := 5 } := by unfold drCut; rw [if_pos hat, hj1]
    have hresM : drCutM M f = cutM M b f.prev (j : Int) := by unfold drCutM; rw [if_pos hat, hj1, hbn]
    rw [hres, hresM]
    have HCt : Hid (∀ W : World, Lk w W B lo aS aH aF aL cS cH cF cL M f aK cK → Calls Try.prog 159 #[.pointer (some ⟨B, 0, none⟩), .int .i64 (b : Int), .agg #[.int .i64 f.c.kind, .int .i64 f.c.a, .int .i64 f.c.b, .int .i64 f.c.time, .int .i64 f.c.bk, .int .i64 f.c.slot, .int .i64 f.pl, .int .i64 f.cur, .int .i64 f.prev, .int .i64 f.slot, .int .i64 f.n, .slice aK f.keys.length cK, .bool f.done, .int .i64 f.e]] W fun e w' => e = .returned (.tuple #[.int .i64 (j : Int), .bool true]) ∧ Lk2 w w' (Foot B aS aH aF aL) B lo (cutM M b f.prev (j : Int)) f aK cK) := fun W h => (cutout_yes M f b B lo aS aH aF aL cS cH cF cL aK cK W h.m HOk.out hf hbl j hj hjl).mono (fun e w' h' => ⟨h'.1, h.after h'.2.1 h'.2.2⟩)
    generalize cutM M b f.prev (j : Int) = M' at *
    have HZ : Hid (∀ ad, aK = some ad → ¬ (Foot B aS aH aF aL) ad.block) := hz
    obtain ⟨of, hof⟩ : ∃ o : Obj, o = .cells #[.int .i64 f.c.kind, .int .i64 f.c.a, .int .i64 f.c.b, .int .i64 f.c.time, .int .i64 f.c.bk, .int .i64 f.c.slot, .int .i64 f.pl, .int .i64 f.cur, .int .i64 f.prev, .int .i64 f.slot, .int .i64 f.n, .slice aK f.keys.length cK, .bool f.done, .int .i64 f.e] 51 := ⟨_, rfl⟩
    obtain ⟨oz, hoz⟩ : ∃ o : Obj, o = zeroFr := ⟨_, rfl⟩
    have HE : Hid (Lk w ((w.alloc of).alloc oz) B lo aS aH aF aL cS cH cF cL M f aK cK) := Lk.first m f aK cK hof hoz
    obtain ⟨q0, q1, q2, q3, q4, -, -, -, -, -, qs⟩ := boxf HE.out.m.box
    obtain ⟨f0, f1, f2, f3, f4, f5, f6, f7, f8, f9, f10, f11, f12, f13, ff, fs⟩ := framef HE.out.fb
    unfold zeroFr at hoz
    clear m hc1 hn1 hcur hns hnh hM hf r hz hres hresM hat h1 hj hj1 hbn hb b0 b1
    go_enter Try.func133, Try.ntmps133
    go_wp2_with fail
    rw [← hof, ← hoz]
    generalize (w.alloc of).alloc oz = W0 at *
    subst hof hoz
    rename_i K0 hK0
    apply by_tail (R := fun a => ∀ W2 : World, Lk2 w W2 (Foot B aS aH aF aL) B lo M' f aK cK → K0 a W2)
    · intro tail0
      have tail : Hid _ := tail0
      clear tail0
      go_region_with (first | (go_at_call 31; refine (HBk.out _ (by exact HE.out.below ⟨rfl, rfl, rfl, Nat.le_refl _, fun _ _ => rfl⟩)).mono ?_; rintro e w1 ⟨rfl, h9⟩; have HE1 : Hid (Lk w w1 B lo aS aH aF aL cS cH cF cL M f aK cK) := h9; clear h9; obtain ⟨f0, f1, f2, f3, f4, f5, f6, f7, f8, f9, f10, f11, f12, f13, ff, fs⟩ := framef HE1.out.fb; obtain ⟨q0, q1, q2, q3, q4, -, -, -, -, -, qs⟩ := boxf HE1.out.m.box) | (go_at_call 159; refine (HCt.out _ (by exact HE1.out.below ⟨rfl, rfl, rfl, Nat.le_refl _, fun _ _ => rfl⟩)).mono ?_; rintro e w2 ⟨rfl, h9⟩; have HE2 : Hid (Lk2 w w2 (Foot B aS aH aF aL) B lo M' f aK cK) := h9; clear h9))
      all_goals exact tail.out _ HE2.out
    · intro w2 h2
      refine hK0 _ _ ?_
      have HE2 : Hid (Lk2 w w2 (Foot B aS aH aF aL) B lo M' f aK cK) := h2
      clear h2 HE hK0
      clear q0 q1 q2 q3 q4 qs
      clear f0 f1 f2 f3 f4 f5 f6 f7 f8 f9 f10 f11 f12 f13 ff fs
      obtain ⟨f0, f1, f2, f3, f4, f5, f6, f7, f8, f9, f10, f11, f12, f13, ff, fs⟩ := framef HE2.out.fb
      go_wp2_with fail
      have HE3 : Hid (Lk2 w _ (Foot B aS aH aF aL) B lo M' { f with slot := (j : Int), e := 0 } aK cK) := (HE2.out.store 9 (.int .i64 (j : Int)) { f with slot := (j : Int) } rfl).store 13 (.int .i64 0) { f with slot := (j : Int), e := 0 } rfl
      clear HE2
      refine (to_any { f with slot := (j : Int), e := 0 } 5 aK cK _).mono ?_
      rintro e w9 ⟨rfl, hb9⟩
      have HE9 : Hid (Lk2 w w9 (Foot B aS aH aF aL) B lo M' { f with slot := (j : Int), e := 0 } aK cK) := HE3.out.below hb9
      clear HE3 hb9
      clear f0 f1 f2 f3 f4 f5 f6 f7 f8 f9 f10 f11 f12 f13 ff fs
      obtain ⟨g0, g1, g2, g3, g4, g5, g6, g7, g8, g9, g10, g11, g12, g13, gf, gs⟩ := framef HE9.out.zb
      go_wp2
      refine bodyPost_ret (v := .agg #[.int .i64 ({ f with slot := (j : Int), e := 0, pl := 5 }).c.kind, .int .i64 ({ f with slot := (j : Int), e := 0, pl := 5 }).c.a, .int .i64 ({ f with slot := (j : Int), e := 0, pl := 5 }).c.b, .int .i64 ({ f with slot := (j : Int), e := 0, pl := 5 }).c.time, .int .i64 ({ f with slot := (j : Int), e := 0, pl := 5 }).c.bk, .int .i64 ({ f with slot := (j : Int), e := 0, pl := 5 }).c.slot, .int .i64 ({ f with slot := (j : Int), e := 0, pl := 5 }).pl, .int .i64 ({ f with slot := (j : Int), e := 0, pl := 5 }).cur, .int .i64 ({ f with slot := (j : Int), e := 0, pl := 5 }).prev, .int .i64 ({ f with slot := (j : Int), e := 0, pl := 5 }).slot, .int .i64 ({ f with slot := (j : Int), e := 0, pl := 5 }).n, .slice aK ({ f with slot := (j : Int), e := 0, pl := 5 }).keys.length cK, .bool ({ f with slot := (j : Int), e := 0, pl := 5 }).done, .int .i64 ({ f with slot := (j : Int), e := 0, pl := 5 }).e]) (by simp [results, Try.results133, go_sem, toF, g0, g1, g2, g3, g4, g5, g6, g7, g8, g9, g10, g11, g12, g13]) rfl ⟨⟨aK, cK, rfl, HR.out.fine HE9.out.end14.2 HZ.out, (fun ad h => .inl h), fun _ => ⟨rfl, rfl⟩⟩, HE9.out.end14⟩
  · have hat0 : isAt M f = false := by simpa using hat
    have hres : drCut M f = errF f 8 5 := by unfold drCut; rw [if_neg hat]
    have hresM : drCutM M f = M := by unfold drCutM; rw [if_neg hat]
    rw [hres, hresM]
    have HCt : Hid (∀ W : World, Lk w W B lo aS aH aF aL cS cH cF cL M f aK cK → Calls Try.prog 159 #[.pointer (some ⟨B, 0, none⟩), .int .i64 (b : Int), .agg #[.int .i64 f.c.kind, .int .i64 f.c.a, .int .i64 f.c.b, .int .i64 f.c.time, .int .i64 f.c.bk, .int .i64 f.c.slot, .int .i64 f.pl, .int .i64 f.cur, .int .i64 f.prev, .int .i64 f.slot, .int .i64 f.n, .slice aK f.keys.length cK, .bool f.done, .int .i64 f.e]] W fun e w' => e = .returned (.tuple #[.int .i64 0, .bool false]) ∧ Lk2 w w' (Foot B aS aH aF aL) B lo M f aK cK) := fun W h => (cutout_no M f b B lo aS aH aF aL cS cH cF cL aK cK W h.m HOk.out hf hbl hat0).mono (fun e w' h' => ⟨h'.1, (h.below h'.2).two⟩)
    have HZ : Hid (∀ ad, aK = some ad → ¬ (Foot B aS aH aF aL) ad.block) := hz
    obtain ⟨of, hof⟩ : ∃ o : Obj, o = .cells #[.int .i64 f.c.kind, .int .i64 f.c.a, .int .i64 f.c.b, .int .i64 f.c.time, .int .i64 f.c.bk, .int .i64 f.c.slot, .int .i64 f.pl, .int .i64 f.cur, .int .i64 f.prev, .int .i64 f.slot, .int .i64 f.n, .slice aK f.keys.length cK, .bool f.done, .int .i64 f.e] 51 := ⟨_, rfl⟩
    obtain ⟨oz, hoz⟩ : ∃ o : Obj, o = zeroFr := ⟨_, rfl⟩
    have HE : Hid (Lk w ((w.alloc of).alloc oz) B lo aS aH aF aL cS cH cF cL M f aK cK) := Lk.first m f aK cK hof hoz
    obtain ⟨q0, q1, q2, q3, q4, -, -, -, -, -, qs⟩ := boxf HE.out.m.box
    obtain ⟨f0, f1, f2, f3, f4, f5, f6, f7, f8, f9, f10, f11, f12, f13, ff, fs⟩ := framef HE.out.fb
    unfold zeroFr at hoz
    clear m hc1 hn1 hcur hns hnh hM hf r hz hres hresM hat hat0 hbn hb b0 b1
    go_enter Try.func133, Try.ntmps133
    go_wp2_with fail
    rw [← hof, ← hoz]
    generalize (w.alloc of).alloc oz = W0 at *
    subst hof hoz
    rename_i K0 hK0
    apply by_tail (R := fun a => ∀ W2 : World, Lk2 w W2 (Foot B aS aH aF aL) B lo M f aK cK → K0 a W2)
    · intro tail0
      have tail : Hid _ := tail0
      clear tail0
      go_region_with (first | (go_at_call 31; refine (HBk.out _ (by exact HE.out.below ⟨rfl, rfl, rfl, Nat.le_refl _, fun _ _ => rfl⟩)).mono ?_; rintro e w1 ⟨rfl, h9⟩; have HE1 : Hid (Lk w w1 B lo aS aH aF aL cS cH cF cL M f aK cK) := h9; clear h9; obtain ⟨f0, f1, f2, f3, f4, f5, f6, f7, f8, f9, f10, f11, f12, f13, ff, fs⟩ := framef HE1.out.fb; obtain ⟨q0, q1, q2, q3, q4, -, -, -, -, -, qs⟩ := boxf HE1.out.m.box) | (go_at_call 159; refine (HCt.out _ (by exact HE1.out.below ⟨rfl, rfl, rfl, Nat.le_refl _, fun _ _ => rfl⟩)).mono ?_; rintro e w2 ⟨rfl, h9⟩; have HE2 : Hid (Lk2 w w2 (Foot B aS aH aF aL) B lo M f aK cK) := h9; clear h9))
      all_goals exact tail.out _ HE2.out
    · intro w2 h2
      refine hK0 _ _ ?_
      have HE2 : Hid (Lk2 w w2 (Foot B aS aH aF aL) B lo M f aK cK) := h2
      clear h2 HE hK0
      clear q0 q1 q2 q3 q4 qs
      clear f0 f1 f2 f3 f4 f5 f6 f7 f8 f9 f10 f11 f12 f13 ff fs
      obtain ⟨f0, f1, f2, f3, f4, f5, f6, f7, f8, f9, f10, f11, f12, f13, ff, fs⟩ := framef HE2.out.fb
      go_wp2_with fail
      refine (drlate_any f aK cK _).mono ?_
      rintro e w9 ⟨rfl, hb9⟩
      have HE9 : Hid (Lk2 w w9 (Foot B aS aH aF aL) B lo M f aK cK) := HE2.out.below hb9
      clear HE2 hb9
      clear f0 f1 f2 f3 f4 f5 f6 f7 f8 f9 f10 f11 f12 f13 ff fs
      obtain ⟨g0, g1, g2, g3, g4, g5, g6, g7, g8, g9, g10, g11, g12, g13, gf, gs⟩ := framef HE9.out.zb
      go_wp2
      refine bodyPost_ret (v := .agg #[.int .i64 (errF f 8 5).c.kind, .int .i64 (errF f 8 5).c.a, .int .i64 (errF f 8 5).c.b, .int .i64 (errF f 8 5).c.time, .int .i64 (errF f 8 5).c.bk, .int .i64 (errF f 8 5).c.slot, .int .i64 (errF f 8 5).pl, .int .i64 (errF f 8 5).cur, .int .i64 (errF f 8 5).prev, .int .i64 (errF f 8 5).slot, .int .i64 (errF f 8 5).n, .slice aK (errF f 8 5).keys.length cK, .bool (errF f 8 5).done, .int .i64 (errF f 8 5).e]) (by simp [results, Try.results133, go_sem, errF, g0, g1, g2, g3, g4, g5, g6, g7, g8, g9, g10, g11, g12, g13]) rfl ⟨⟨aK, cK, rfl, HR.out.fine HE9.out.end14.2 HZ.out, (fun ad h => .inl h), fun _ => ⟨rfl, rfl⟩⟩, HE9.out.end14⟩

end Go.Proofs.Ytdbilofhcadmoab.mm
