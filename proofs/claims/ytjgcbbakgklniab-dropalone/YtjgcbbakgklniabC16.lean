/- The contract of drop's part begin. -/
import Derived.Test.YtjgcbbakgklniabC14
import Derived.Deep.QuietTactic
import Derived.BigQuiet
import Derived.BigRegion
import Derived.Lib.QuietBelow
namespace Go.Proofs.Ytjgcbbakgklniab.mm
open Go.ChangeShapes Go.WideShapes Go.ChangeAt Go.RowKit Go.Joins Go.Deep Go.Sort
set_option maxRecDepth 100000
set_option linter.unusedVariables false

set_option maxHeartbeats 3200000 in
theorem dr_begin (M : Mm) (f : Fr) (B lo : Nat) (aS aH aF aL : Option Addr) (cS cH cF cL : Nat) (aK : Option Addr) (cK : Nat) (w : World)
    (m : Mine w B lo aS aH aF aL cS cH cF cL M) (hM : Ok M) (hf : Fit M f) (r : KRow w aK cK f.keys) (hz : ∀ ad, aK = some ad → ¬ Foot B aS aH aF aL ad.block) :
    Calls Try.prog 130 #[.pointer (some ⟨B, 0, none⟩), .agg #[.int .i64 f.c.kind, .int .i64 f.c.a, .int .i64 f.c.b, .int .i64 f.c.time, .int .i64 f.c.bk, .int .i64 f.c.slot, .int .i64 f.pl, .int .i64 f.cur, .int .i64 f.prev, .int .i64 f.slot, .int .i64 f.n, .slice aK f.keys.length cK, .bool f.done, .int .i64 f.e]] w fun e w' => Ret w w' e (prevF2 f 0 (headM M (bkN M f)) 2) aK cK ∧ Has w' B lo (Up w (Foot B aS aH aF aL)) (M) ∧ Fine w w' (Foot B aS aH aF aL) := by
  have hns := hM.ns
  have hnh := hM.nh.2
  have hcur := hf.cur.2
  have hc1 : f.cur ≤ 1000 := by omega
  have hn1 : M.slots.length ≤ 1000 := by omega
  have HOk : Hid (Ok M) := hM
  have HR : Hid (KRow w aK cK f.keys) := r
  obtain ⟨b0, b1⟩ := bkOf_in hM hf.call
  obtain ⟨b, hb⟩ : ∃ b : Nat, bkOf M.heads.length f.c = b := ⟨_, (Int.toNat_of_nonneg b0).symm⟩
  have hbl : b < M.heads.length := by omega
  obtain ⟨gH, rfl, oH, lH, -, -⟩ := row_form m.c.h (by omega)
  obtain ⟨x, hx⟩ : ∃ x, x = M.heads[b] := ⟨_, rfl⟩
  have hhd : headM M (bkN M f) = x := by unfold bkN; rw [hb, hx]; simp [headM, List.getD_eq_getElem?_getD, hbl]
  rw [hhd]
  have HX : Hid (∀ W, Mine W B lo aS (some ⟨gH, 0, none⟩) aF aL cS cH cF cL M → W.cell? ⟨gH, b, none⟩ = some (.int .i64 x)) := fun W m' => by rw [hx]; exact (row_cell m'.c.h hbl).1
  have HBk : Hid (∀ W : World, Calls Try.prog 31 #[.agg #[.slice aS M.slots.length cS, .slice (some ⟨gH, 0, none⟩) M.heads.length cH, .slice aF M.free.length cF, .slice aL M.locks.length cL, .int .i64 M.now], .agg #[.int .i64 f.c.kind, .int .i64 f.c.a, .int .i64 f.c.b, .int .i64 f.c.time, .int .i64 f.c.bk, .int .i64 f.c.slot]] W fun e w' => e = .returned (.int .i64 (b : Int)) ∧ Below W.heap.size W w') := fun W => hb ▸ frBucket_any _ _ _ _ _ _ _ _ cS cH cF cL M.now f.c W (by omega)
  have HCh : Hid (∀ W : World, Calls Try.prog 75 #[.agg #[.slice aS M.slots.length cS, .slice (some ⟨gH, 0, none⟩) M.heads.length cH, .slice aF M.free.length cF, .slice aL M.locks.length cL, .int .i64 M.now], .int .i64 (b : Int)] W fun e w' => e = .returned (.bool true) ∧ Below W.heap.size W w') := fun W => (show inB (b : Int) 0 ((M.heads.length : Int) - 1) = true from (inB_iff _ _ _).2 (by omega)) ▸ hasChain_any _ _ _ _ _ _ _ _ cS cH cF cL M.now (b : Int) W (by omega)
  have HZ : Hid (∀ ad, aK = some ad → ¬ (Foot B aS (some ⟨gH, 0, none⟩) aF aL) ad.block) := hz
  obtain ⟨of, hof⟩ : ∃ o : Obj, o = .cells #[.int .i64 f.c.kind, .int .i64 f.c.a, .int .i64 f.c.b, .int .i64 f.c.time, .int .i64 f.c.bk, .int .i64 f.c.slot, .int .i64 f.pl, .int .i64 f.cur, .int .i64 f.prev, .int .i64 f.slot, .int .i64 f.n, .slice aK f.keys.length cK, .bool f.done, .int .i64 f.e] 51 := ⟨_, rfl⟩
  obtain ⟨oz, hoz⟩ : ∃ o : Obj, o = zeroFr := ⟨_, rfl⟩
  have HE : Hid (Lk w ((w.alloc of).alloc oz) B lo aS (some ⟨gH, 0, none⟩) aF aL cS cH cF cL M f aK cK) := Lk.first m f aK cK hof hoz
  obtain ⟨q0, q1, q2, q3, q4, -, -, -, -, -, qs⟩ := boxf HE.out.m.box
  obtain ⟨f0, f1, f2, f3, f4, f5, f6, f7, f8, f9, f10, f11, f12, f13, ff, fs⟩ := framef HE.out.fb
  unfold zeroFr at hoz
  clear m hc1 hn1 hcur hns hnh hM hf r hz hx hhd hb b0 b1 oH lH
  go_enter Try.func130, Try.ntmps130
  go_wp2_with fail
  rw [← hof, ← hoz]
  generalize (w.alloc of).alloc oz = W0 at *
  subst hof hoz
  have cB : ∀ (d : Nat) (os : Array Obj), Calls Try.prog 31 #[.agg #[.slice aS M.slots.length cS, .slice (some ⟨gH, 0, none⟩) M.heads.length cH, .slice aF M.free.length cF, .slice aL M.locks.length cL, .int .i64 M.now], .agg #[.int .i64 f.c.kind, .int .i64 f.c.a, .int .i64 f.c.b, .int .i64 f.c.time, .int .i64 f.c.bk, .int .i64 f.c.slot]] (grow (redrawn W0 d) os) fun e w'' => e = .returned (.int .i64 (b : Int)) ∧ ∃ p : Regrown, w'' = grow (redrawn W0 p.d) p.os := fun d os => Calls.regrown_of (HBk.out _)
  have Xq0 := cell_regrown q0
  have Xq1 := cell_regrown q1
  have Xq2 := cell_regrown q2
  have Xq3 := cell_regrown q3
  have Xq4 := cell_regrown q4
  have Xf0 := cell_regrown f0
  have Xf1 := cell_regrown f1
  have Xf2 := cell_regrown f2
  have Xf3 := cell_regrown f3
  have Xf4 := cell_regrown f4
  have Xf5 := cell_regrown f5
  clear q0 q1 q2 q3 q4 qs
  clear f0 f1 f2 f3 f4 f5 f6 f7 f8 f9 f10 f11 f12 f13 ff fs
  refine wp_region_quiet_below (by kernel_rfl) (by kernel_rfl) ?_
  repeat (quiet_step (first | exact cB _ _))
  refine wpQuiet_nil ?_
  intro _ hw'
  obtain ⟨⟨dq, osq⟩, hw''⟩ := hw'
  subst hw''
  have HE1 : Hid (Lk w (grow (redrawn W0 dq) osq) B lo aS (some ⟨gH, 0, none⟩) aF aL cS cH cF cL M f aK cK) := HE.out.below (below_regrown W0 dq osq)
  generalize grow (redrawn W0 dq) osq = w1 at *
  clear Xq0 Xq1 Xq2 Xq3 Xq4 Xf0 Xf1 Xf2 Xf3 Xf4 Xf5 HE
  clear cB
  obtain ⟨q0, q1, q2, q3, q4, -, -, -, -, -, qs⟩ := boxf HE1.out.m.box
  go_wp2_with fail
  refine (HCh.out w1).mono ?_
  rintro e w2 ⟨rfl, hb2⟩
  have HE2 : Hid (Lk w w2 B lo aS (some ⟨gH, 0, none⟩) aF aL cS cH cF cL M f aK cK) := HE1.out.below hb2
  clear HE1 hb2
  clear q0 q1 q2 q3 q4 qs
  obtain ⟨q0, q1, q2, q3, q4, -, -, -, -, -, qs⟩ := boxf HE2.out.m.box
  obtain ⟨f0, f1, f2, f3, f4, f5, f6, f7, f8, f9, f10, f11, f12, f13, ff, fs⟩ := framef HE2.out.fb
  have hc := HX.out w2 HE2.out.m
  have hcl := cell_lt hc
  have hB0 : B < w.heap.size := HE2.out.lt B (.inl rfl)
  have hg0 : gH < w.heap.size := HE2.out.lt gH (.inr (.inr (.inl ⟨_, rfl, rfl⟩)))
  have hBn : B ≠ w.heap.size := by omega
  have hgn : gH ≠ w.heap.size := by omega
  have hBm : w.heap.size ≠ B := by omega
  have hgm : w.heap.size ≠ gH := by omega
  go_wp2_with fail
  rename_i K0 hK0
  apply by_tail (R := fun a => ∀ W2 : World, Lk2 w W2 (Foot B aS (some ⟨gH, 0, none⟩) aF aL) B lo M { f with prev := 0, cur := x } aK cK → K0 a W2)
  · intro tail0
    have tail : Hid _ := tail0
    clear tail0
    go_region
    all_goals exact tail.out _ (((HE2.out.store 8 (.int .i64 0) { f with prev := 0 } rfl).store 7 (.int .i64 x) { f with prev := 0, cur := x } rfl).two.below ⟨rfl, rfl, rfl, Nat.le_refl _, fun _ _ => rfl⟩)
  intro w3 h3
  have HE3 : Hid (Lk2 w w3 (Foot B aS (some ⟨gH, 0, none⟩) aF aL) B lo M { f with prev := 0, cur := x } aK cK) := h3
  refine hK0 _ _ ?_
  clear h3 hK0 HE2 hc hcl hB0 hg0 hBn hgn hBm hgm
  clear f0 f1 f2 f3 f4 f5 f6 f7 f8 f9 f10 f11 f12 f13 ff fs
  obtain ⟨f0, f1, f2, f3, f4, f5, f6, f7, f8, f9, f10, f11, f12, f13, ff, fs⟩ := framef HE3.out.fb
  go_wp2_with fail
  clear q0 q1 q2 q3 q4 qs
  refine (to_any { f with prev := 0, cur := x } 2 aK cK _).mono ?_
  rintro e w9 ⟨rfl, hb9⟩
  have HE9 : Hid (Lk2 w w9 (Foot B aS (some ⟨gH, 0, none⟩) aF aL) B lo M { f with prev := 0, cur := x } aK cK) := HE3.out.below hb9
  clear HE3 hb9
  clear f0 f1 f2 f3 f4 f5 f6 f7 f8 f9 f10 f11 f12 f13 ff fs
  obtain ⟨g0, g1, g2, g3, g4, g5, g6, g7, g8, g9, g10, g11, g12, g13, gf, gs⟩ := framef HE9.out.zb
  go_wp2
  refine bodyPost_ret (v := .agg #[.int .i64 (prevF2 f 0 x 2).c.kind, .int .i64 (prevF2 f 0 x 2).c.a, .int .i64 (prevF2 f 0 x 2).c.b, .int .i64 (prevF2 f 0 x 2).c.time, .int .i64 (prevF2 f 0 x 2).c.bk, .int .i64 (prevF2 f 0 x 2).c.slot, .int .i64 (prevF2 f 0 x 2).pl, .int .i64 (prevF2 f 0 x 2).cur, .int .i64 (prevF2 f 0 x 2).prev, .int .i64 (prevF2 f 0 x 2).slot, .int .i64 (prevF2 f 0 x 2).n, .slice aK (prevF2 f 0 x 2).keys.length cK, .bool (prevF2 f 0 x 2).done, .int .i64 (prevF2 f 0 x 2).e]) (by simp [results, Try.results130, go_sem, prevF2, toF, g0, g1, g2, g3, g4, g5, g6, g7, g8, g9, g10, g11, g12, g13]) rfl ⟨⟨aK, cK, rfl, HR.out.fine HE9.out.end14.2 HZ.out, (fun ad h => .inl h), fun _ => ⟨rfl, rfl⟩⟩, HE9.out.end14⟩
end Go.Proofs.Ytjgcbbakgklniab.mm

/- The contract of drop's part see. -/
namespace Go.Proofs.Ytjgcbbakgklniab.mm
open Go.ChangeShapes Go.WideShapes Go.ChangeAt Go.RowKit Go.Joins Go.Deep Go.Sort
set_option maxRecDepth 100000
set_option linter.unusedVariables false


set_option maxHeartbeats 3200000 in
theorem dr_see (M : Mm) (f : Fr) (B lo : Nat) (aS aH aF aL : Option Addr) (cS cH cF cL : Nat) (aK : Option Addr) (cK : Nat) (w : World)
    (m : Mine w B lo aS aH aF aL cS cH cF cL M) (hM : Ok M) (hf : Fit M f) (r : KRow w aK cK f.keys) (hz : ∀ ad, aK = some ad → ¬ Foot B aS aH aF aL ad.block) :
    Calls Try.prog 131 #[.pointer (some ⟨B, 0, none⟩), .agg #[.int .i64 f.c.kind, .int .i64 f.c.a, .int .i64 f.c.b, .int .i64 f.c.time, .int .i64 f.c.bk, .int .i64 f.c.slot, .int .i64 f.pl, .int .i64 f.cur, .int .i64 f.prev, .int .i64 f.slot, .int .i64 f.n, .slice aK f.keys.length cK, .bool f.done, .int .i64 f.e]] w fun e w' => Ret w w' e (drSee M f) aK cK ∧ Has w' B lo (Up w (Foot B aS aH aF aL)) (M) ∧ Fine w w' (Foot B aS aH aF aL) := by
  have hns := hM.ns
  have hnh := hM.nh.2
  have hcur := hf.cur.2
  have hc1 : f.cur ≤ 1000 := by omega
  have hn1 : M.slots.length ≤ 1000 := by omega
  have HOk : Hid (Ok M) := hM
  have HR : Hid (KRow w aK cK f.keys) := r
  by_cases hat : isAt M f = true
  · have h1 := isAt_iff.1 hat
    obtain ⟨j, hj⟩ : ∃ j : Nat, f.cur - 1 = j := ⟨(f.cur - 1).toNat, by omega⟩
    have hjl : j < M.slots.length := by omega
    obtain ⟨gS, rfl, oS, lS, kS, -⟩ := row_form m.c.s (by omega)
    obtain ⟨s, hs⟩ : ∃ s, s = slotAt M (j : Int) := ⟨_, rfl⟩
    have hst : stN f = j := by unfold stN; rw [if_neg (by omega)]; exact hj
    have hres : drSee M f = toF f (if lkK s f then 4 else 3) := by unfold drSee; rw [if_pos hat, hj, ← hs]
    rw [hres]
    have HSt : Hid (∀ (W : World), Lk w W B lo (some ⟨gS, 0, none⟩) aH aF aL cS cH cF cL M f aK cK → Calls Try.prog 149 #[.pointer (some ⟨B, 0, none⟩), .agg #[.int .i64 f.c.kind, .int .i64 f.c.a, .int .i64 f.c.b, .int .i64 f.c.time, .int .i64 f.c.bk, .int .i64 f.c.slot, .int .i64 f.pl, .int .i64 f.cur, .int .i64 f.prev, .int .i64 f.slot, .int .i64 f.n, .slice aK f.keys.length cK, .bool f.done, .int .i64 f.e]] W fun e w' => e = .returned (.tuple #[.int .i64 ((j : Int)), .bool true]) ∧ Lk w w' B lo (some ⟨gS, 0, none⟩) aH aF aL cS cH cF cL M f aK cK) := fun W h => by
      have := standsAt_any M f B _ _ _ _ cS cH cF cL aK cK W h.m.box hc1 hn1
      rw [hst, hat] at this
      exact this.mono (fun e w' h' => ⟨h'.1, h.below h'.2⟩)
    have HX : Hid (∀ W, Mine W B lo (some ⟨gS, 0, none⟩) aH aF aL cS cH cF cL M → W.cell? ⟨gS, j * 6 + 1, none⟩ = some (.int .i64 s.a) ∧ W.cell? ⟨gS, j * 6 + 2, none⟩ = some (.int .i64 s.b) ∧ W.cell? ⟨gS, j * 6 + 5, none⟩ = some (.int .i64 s.next)) := fun W m' => ⟨(slotAt_cells m'.c.s hjl hs).2.1, (slotAt_cells m'.c.s hjl hs).2.2.1, (slotAt_cells m'.c.s hjl hs).2.2.2.2.2.1⟩
    cases hk : lkK s f
    · show Calls Try.prog 131 _ w fun e w' => Ret w w' e (toF f 3) aK cK ∧ Has w' B lo (Up w (Foot B (some ⟨gS, 0, none⟩) aH aF aL)) (M) ∧ Fine w w' (Foot B (some ⟨gS, 0, none⟩) aH aF aL)
      have se : ∀ W : World, (Op.equalIn 10000 37 (.agg #[.int .i64 s.a, .int .i64 s.b]) (.agg #[.int .i64 f.c.a, .int .i64 f.c.b])).run Try.prog W = .ok false W := fun W => by rw [kequal]; exact congrArg (fun b => Result.ok b W) hk
      have HZ : Hid (∀ ad, aK = some ad → ¬ (Foot B (some ⟨gS, 0, none⟩) aH aF aL) ad.block) := hz
      obtain ⟨of, hof⟩ : ∃ o : Obj, o = .cells #[.int .i64 f.c.kind, .int .i64 f.c.a, .int .i64 f.c.b, .int .i64 f.c.time, .int .i64 f.c.bk, .int .i64 f.c.slot, .int .i64 f.pl, .int .i64 f.cur, .int .i64 f.prev, .int .i64 f.slot, .int .i64 f.n, .slice aK f.keys.length cK, .bool f.done, .int .i64 f.e] 51 := ⟨_, rfl⟩
      obtain ⟨oz, hoz⟩ : ∃ o : Obj, o = zeroFr := ⟨_, rfl⟩
      have HE : Hid (Lk w ((w.alloc of).alloc oz) B lo (some ⟨gS, 0, none⟩) aH aF aL cS cH cF cL M f aK cK) := Lk.first m f aK cK hof hoz
      obtain ⟨q0, q1, q2, q3, q4, -, -, -, -, -, qs⟩ := boxf HE.out.m.box
      obtain ⟨f0, f1, f2, f3, f4, f5, f6, f7, f8, f9, f10, f11, f12, f13, ff, fs⟩ := framef HE.out.fb
      unfold zeroFr at hoz
      clear m hc1 hn1 hcur hns hnh hM hf r hz hk hres hs hst hat h1
      go_enter Try.func131, Try.ntmps131
      go_wp2_with fail
      rw [← hof, ← hoz]
      generalize (w.alloc of).alloc oz = W0 at *
      subst hof hoz
      clear q0 q1 q2 q3 q4 qs
      clear f0 f1 f2 f3 f4 f5 f6 f7 f8 f9 f10 f11 f12 f13 ff fs
      refine (HSt.out _ (by exact HE.out.below ⟨rfl, rfl, rfl, Nat.le_refl _, fun _ _ => rfl⟩)).mono ?_
      rintro e w1 ⟨rfl, h9⟩
      have HE1 : Hid (Lk w w1 B lo (some ⟨gS, 0, none⟩) aH aF aL cS cH cF cL M f aK cK) := h9
      clear HE h9
      obtain ⟨q0, q1, q2, q3, q4, -, -, -, -, -, qs⟩ := boxf HE1.out.m.box
      obtain ⟨f0, f1, f2, f3, f4, f5, f6, f7, f8, f9, f10, f11, f12, f13, ff, fs⟩ := framef HE1.out.fb
      obtain ⟨x1, x2, x5⟩ := HX.out w1 HE1.out.m
      go_wp2_with fail
      go_quiet (fail)
      go_wp2_with fail
      have HE2 : Hid (Lk2 w (w1.drewN nq) (Foot B (some ⟨gS, 0, none⟩) aH aF aL) B lo M f aK cK) := (HE1.out.below (w2 := w1.drewN nq) ⟨rfl, rfl, rfl, Nat.le_refl _, fun _ _ => rfl⟩).two
      clear HE1 x1 x2 x5
      clear q0 q1 q2 q3 q4 qs
      refine (to_any f 3 aK cK _).mono ?_
      rintro e w9 ⟨rfl, hb9⟩
      have HE9 : Hid (Lk2 w w9 (Foot B (some ⟨gS, 0, none⟩) aH aF aL) B lo M f aK cK) := HE2.out.below hb9
      clear HE2 hb9
      clear f0 f1 f2 f3 f4 f5 f6 f7 f8 f9 f10 f11 f12 f13 ff fs
      obtain ⟨g0, g1, g2, g3, g4, g5, g6, g7, g8, g9, g10, g11, g12, g13, gf, gs⟩ := framef HE9.out.zb
      go_wp2
      refine bodyPost_ret (v := .agg #[.int .i64 (toF f 3).c.kind, .int .i64 (toF f 3).c.a, .int .i64 (toF f 3).c.b, .int .i64 (toF f 3).c.time, .int .i64 (toF f 3).c.bk, .int .i64 (toF f 3).c.slot, .int .i64 (toF f 3).pl, .int .i64 (toF f 3).cur, .int .i64 (toF f 3).prev, .int .i64 (toF f 3).slot, .int .i64 (toF f 3).n, .slice aK (toF f 3).keys.length cK, .bool (toF f 3).done, .int .i64 (toF f 3).e]) (by simp [results, Try.results131, go_sem, toF, g0, g1, g2, g3, g4, g5, g6, g7, g8, g9, g10, g11, g12, g13]) rfl ⟨⟨aK, cK, rfl, HR.out.fine HE9.out.end14.2 HZ.out, (fun ad h => .inl h), fun _ => ⟨rfl, rfl⟩⟩, HE9.out.end14⟩
    · show Calls Try.prog 131 _ w fun e w' => Ret w w' e (toF f 4) aK cK ∧ Has w' B lo (Up w (Foot B (some ⟨gS, 0, none⟩) aH aF aL)) (M) ∧ Fine w w' (Foot B (some ⟨gS, 0, none⟩) aH aF aL)
      have se : ∀ W : World, (Op.equalIn 10000 37 (.agg #[.int .i64 s.a, .int .i64 s.b]) (.agg #[.int .i64 f.c.a, .int .i64 f.c.b])).run Try.prog W = .ok true W := fun W => by rw [kequal]; exact congrArg (fun b => Result.ok b W) hk
      have HZ : Hid (∀ ad, aK = some ad → ¬ (Foot B (some ⟨gS, 0, none⟩) aH aF aL) ad.block) := hz
      obtain ⟨of, hof⟩ : ∃ o : Obj, o = .cells #[.int .i64 f.c.kind, .int .i64 f.c.a, .int .i64 f.c.b, .int .i64 f.c.time, .int .i64 f.c.bk, .int .i64 f.c.slot, .int .i64 f.pl, .int .i64 f.cur, .int .i64 f.prev, .int .i64 f.slot, .int .i64 f.n, .slice aK f.keys.length cK, .bool f.done, .int .i64 f.e] 51 := ⟨_, rfl⟩
      obtain ⟨oz, hoz⟩ : ∃ o : Obj, o = zeroFr := ⟨_, rfl⟩
      have HE : Hid (Lk w ((w.alloc of).alloc oz) B lo (some ⟨gS, 0, none⟩) aH aF aL cS cH cF cL M f aK cK) := Lk.first m f aK cK hof hoz
      obtain ⟨q0, q1, q2, q3, q4, -, -, -, -, -, qs⟩ := boxf HE.out.m.box
      obtain ⟨f0, f1, f2, f3, f4, f5, f6, f7, f8, f9, f10, f11, f12, f13, ff, fs⟩ := framef HE.out.fb
      unfold zeroFr at hoz
      clear m hc1 hn1 hcur hns hnh hM hf r hz hk hres hs hst hat h1
      go_enter Try.func131, Try.ntmps131
      go_wp2_with fail
      rw [← hof, ← hoz]
      generalize (w.alloc of).alloc oz = W0 at *
      subst hof hoz
      clear q0 q1 q2 q3 q4 qs
      clear f0 f1 f2 f3 f4 f5 f6 f7 f8 f9 f10 f11 f12 f13 ff fs
      refine (HSt.out _ (by exact HE.out.below ⟨rfl, rfl, rfl, Nat.le_refl _, fun _ _ => rfl⟩)).mono ?_
      rintro e w1 ⟨rfl, h9⟩
      have HE1 : Hid (Lk w w1 B lo (some ⟨gS, 0, none⟩) aH aF aL cS cH cF cL M f aK cK) := h9
      clear HE h9
      obtain ⟨q0, q1, q2, q3, q4, -, -, -, -, -, qs⟩ := boxf HE1.out.m.box
      obtain ⟨f0, f1, f2, f3, f4, f5, f6, f7, f8, f9, f10, f11, f12, f13, ff, fs⟩ := framef HE1.out.fb
      obtain ⟨x1, x2, x5⟩ := HX.out w1 HE1.out.m
      go_wp2_with fail
      go_quiet (fail)
      go_wp2_with fail
      have HE2 : Hid (Lk2 w (w1.drewN nq) (Foot B (some ⟨gS, 0, none⟩) aH aF aL) B lo M f aK cK) := (HE1.out.below (w2 := w1.drewN nq) ⟨rfl, rfl, rfl, Nat.le_refl _, fun _ _ => rfl⟩).two
      clear HE1 x1 x2 x5
      clear q0 q1 q2 q3 q4 qs
      refine (to_any f 4 aK cK _).mono ?_
      rintro e w9 ⟨rfl, hb9⟩
      have HE9 : Hid (Lk2 w w9 (Foot B (some ⟨gS, 0, none⟩) aH aF aL) B lo M f aK cK) := HE2.out.below hb9
      clear HE2 hb9
      clear f0 f1 f2 f3 f4 f5 f6 f7 f8 f9 f10 f11 f12 f13 ff fs
      obtain ⟨g0, g1, g2, g3, g4, g5, g6, g7, g8, g9, g10, g11, g12, g13, gf, gs⟩ := framef HE9.out.zb
      go_wp2
      refine bodyPost_ret (v := .agg #[.int .i64 (toF f 4).c.kind, .int .i64 (toF f 4).c.a, .int .i64 (toF f 4).c.b, .int .i64 (toF f 4).c.time, .int .i64 (toF f 4).c.bk, .int .i64 (toF f 4).c.slot, .int .i64 (toF f 4).pl, .int .i64 (toF f 4).cur, .int .i64 (toF f 4).prev, .int .i64 (toF f 4).slot, .int .i64 (toF f 4).n, .slice aK (toF f 4).keys.length cK, .bool (toF f 4).done, .int .i64 (toF f 4).e]) (by simp [results, Try.results131, go_sem, toF, g0, g1, g2, g3, g4, g5, g6, g7, g8, g9, g10, g11, g12, g13]) rfl ⟨⟨aK, cK, rfl, HR.out.fine HE9.out.end14.2 HZ.out, (fun ad h => .inl h), fun _ => ⟨rfl, rfl⟩⟩, HE9.out.end14⟩
  · have hat0 : isAt M f = false := by simpa using hat
    have hres : drSee M f = errF f 5 5 := by unfold drSee; rw [if_neg hat]
    rw [hres]
    have HSt : Hid (∀ (W : World), Lk w W B lo aS aH aF aL cS cH cF cL M f aK cK → Calls Try.prog 149 #[.pointer (some ⟨B, 0, none⟩), .agg #[.int .i64 f.c.kind, .int .i64 f.c.a, .int .i64 f.c.b, .int .i64 f.c.time, .int .i64 f.c.bk, .int .i64 f.c.slot, .int .i64 f.pl, .int .i64 f.cur, .int .i64 f.prev, .int .i64 f.slot, .int .i64 f.n, .slice aK f.keys.length cK, .bool f.done, .int .i64 f.e]] W fun e w' => e = .returned (.tuple #[.int .i64 (stN f), .bool false]) ∧ Lk w w' B lo aS aH aF aL cS cH cF cL M f aK cK) := fun W h => by
      have := standsAt_any M f B _ _ _ _ cS cH cF cL aK cK W h.m.box hc1 hn1
      rw [hat0] at this
      exact this.mono (fun e w' h' => ⟨h'.1, h.below h'.2⟩)
    have HZ : Hid (∀ ad, aK = some ad → ¬ (Foot B aS aH aF aL) ad.block) := hz
    obtain ⟨of, hof⟩ : ∃ o : Obj, o = .cells #[.int .i64 f.c.kind, .int .i64 f.c.a, .int .i64 f.c.b, .int .i64 f.c.time, .int .i64 f.c.bk, .int .i64 f.c.slot, .int .i64 f.pl, .int .i64 f.cur, .int .i64 f.prev, .int .i64 f.slot, .int .i64 f.n, .slice aK f.keys.length cK, .bool f.done, .int .i64 f.e] 51 := ⟨_, rfl⟩
    obtain ⟨oz, hoz⟩ : ∃ o : Obj, o = zeroFr := ⟨_, rfl⟩
    have HE : Hid (Lk w ((w.alloc of).alloc oz) B lo aS aH aF aL cS cH cF cL M f aK cK) := Lk.first m f aK cK hof hoz
    obtain ⟨q0, q1, q2, q3, q4, -, -, -, -, -, qs⟩ := boxf HE.out.m.box
    obtain ⟨f0, f1, f2, f3, f4, f5, f6, f7, f8, f9, f10, f11, f12, f13, ff, fs⟩ := framef HE.out.fb
    unfold zeroFr at hoz
    clear m hc1 hn1 hcur hns hnh hM hf r hz hres hat hat0
    go_enter Try.func131, Try.ntmps131
    go_wp2_with fail
    rw [← hof, ← hoz]
    generalize (w.alloc of).alloc oz = W0 at *
    subst hof hoz
    clear q0 q1 q2 q3 q4 qs
    clear f0 f1 f2 f3 f4 f5 f6 f7 f8 f9 f10 f11 f12 f13 ff fs
    refine (HSt.out _ (by exact HE.out.below ⟨rfl, rfl, rfl, Nat.le_refl _, fun _ _ => rfl⟩)).mono ?_
    rintro e w1 ⟨rfl, h9⟩
    have HE1 : Hid (Lk w w1 B lo aS aH aF aL cS cH cF cL M f aK cK) := h9
    clear HE h9
    obtain ⟨q0, q1, q2, q3, q4, -, -, -, -, -, qs⟩ := boxf HE1.out.m.box
    obtain ⟨f0, f1, f2, f3, f4, f5, f6, f7, f8, f9, f10, f11, f12, f13, ff, fs⟩ := framef HE1.out.fb
    go_wp2_with fail
    have HE2 : Hid (Lk2 w _ (Foot B aS aH aF aL) B lo M { f with e := 5 } aK cK) := (HE1.out.store 13 (.int .i64 5) { f with e := 5 } rfl).two
    clear HE1
    clear q0 q1 q2 q3 q4 qs
    refine (to_any { f with e := 5 } 5 aK cK _).mono ?_
    rintro e w9 ⟨rfl, hb9⟩
    have HE9 : Hid (Lk2 w w9 (Foot B aS aH aF aL) B lo M { f with e := 5 } aK cK) := HE2.out.below hb9
    clear HE2 hb9
    clear f0 f1 f2 f3 f4 f5 f6 f7 f8 f9 f10 f11 f12 f13 ff fs
    obtain ⟨g0, g1, g2, g3, g4, g5, g6, g7, g8, g9, g10, g11, g12, g13, gf, gs⟩ := framef HE9.out.zb
    go_wp2
    refine bodyPost_ret (v := .agg #[.int .i64 (errF f 5 5).c.kind, .int .i64 (errF f 5 5).c.a, .int .i64 (errF f 5 5).c.b, .int .i64 (errF f 5 5).c.time, .int .i64 (errF f 5 5).c.bk, .int .i64 (errF f 5 5).c.slot, .int .i64 (errF f 5 5).pl, .int .i64 (errF f 5 5).cur, .int .i64 (errF f 5 5).prev, .int .i64 (errF f 5 5).slot, .int .i64 (errF f 5 5).n, .slice aK (errF f 5 5).keys.length cK, .bool (errF f 5 5).done, .int .i64 (errF f 5 5).e]) (by simp [results, Try.results131, go_sem, errF, toF, g0, g1, g2, g3, g4, g5, g6, g7, g8, g9, g10, g11, g12, g13]) rfl ⟨⟨aK, cK, rfl, HR.out.fine HE9.out.end14.2 HZ.out, (fun ad h => .inl h), fun _ => ⟨rfl, rfl⟩⟩, HE9.out.end14⟩
end Go.Proofs.Ytjgcbbakgklniab.mm
