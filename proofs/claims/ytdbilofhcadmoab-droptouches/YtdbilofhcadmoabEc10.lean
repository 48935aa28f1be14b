/- The contract of look's part see. -/
import Derived.Test.YtdbilofhcadmoabEc09
import Derived.Test.YtdbilofhcadmoabEc07
import Derived.Deep.QuietTactic
import Derived.BigQuiet
import Derived.Lib.QuietBelow
namespace Go.Proofs.Ytdbilofhcadmoab.mm
open Go.ChangeShapes Go.WideShapes Go.ChangeAt Go.RowKit Go.Joins Go.Deep Go.Sort
set_option maxRecDepth 100000
set_option linter.unusedVariables false

/- A frame is answered, its keys lie there as before, or anew. -/
def Ret (w w' : World) (e : Ending) (g : Fr) (aK : Option Addr) (cK : Nat) : Prop :=
  ∃ a c, e = .returned (.agg #[.int .i64 g.c.kind, .int .i64 g.c.a, .int .i64 g.c.b, .int .i64 g.c.time, .int .i64 g.c.bk, .int .i64 g.c.slot, .int .i64 g.pl, .int .i64 g.cur, .int .i64 g.prev, .int .i64 g.slot, .int .i64 g.n, .slice a g.keys.length c, .bool g.done, .int .i64 g.e]) ∧ KRow w' a c g.keys ∧ (∀ ad, a = some ad → aK = some ad ∨ w.heap.size ≤ ad.block) ∧ (g.done = false → a = aK ∧ c = cK)

theorem krow14 {w1 : World} {n : Nat} {a : Option Addr} {c : Nat} {l : List (Int × Int)} {v0 v1 v2 v3 v4 v5 v6 v7 v8 v9 v10 v11 v12 v13 : Value} (r : KRow w1 a c l) (h : ∀ ad, a = some ad → n + 2 ≤ ad.block) : KRow ((((((((((((((w1.setCell ⟨n + 1, 0, none⟩ v0).setCell ⟨n + 1, 1, none⟩ v1).setCell ⟨n + 1, 2, none⟩ v2).setCell ⟨n + 1, 3, none⟩ v3).setCell ⟨n + 1, 4, none⟩ v4).setCell ⟨n + 1, 5, none⟩ v5).setCell ⟨n + 1, 6, none⟩ v6).setCell ⟨n + 1, 7, none⟩ v7).setCell ⟨n + 1, 8, none⟩ v8).setCell ⟨n + 1, 9, none⟩ v9).setCell ⟨n + 1, 10, none⟩ v10).setCell ⟨n + 1, 11, none⟩ v11).setCell ⟨n + 1, 12, none⟩ v12).setCell ⟨n + 1, 13, none⟩ v13) a c l := by
  refine r.hi h (fun k hk => ?_)
  repeat rw [Below.heap_setCell _ _ _ _ (by dsimp only; omega)]

set_option maxHeartbeats 3200000 in
theorem see_any (M : Mm) (f : Fr) (B lo : Nat) (aS aH aF aL : Option Addr) (cS cH cF cL : Nat) (aK : Option Addr) (cK : Nat) (w : World)
    (m : Mine w B lo aS aH aF aL cS cH cF cL M) (hM : Ok M) (hf : Fit M f) (r : KRow w aK cK f.keys) :
    Calls Try.prog 91 #[.pointer (some ⟨B, 0, none⟩), .agg #[.int .i64 f.c.kind, .int .i64 f.c.a, .int .i64 f.c.b, .int .i64 f.c.time, .int .i64 f.c.bk, .int .i64 f.c.slot, .int .i64 f.pl, .int .i64 f.cur, .int .i64 f.prev, .int .i64 f.slot, .int .i64 f.n, .slice aK f.keys.length cK, .bool f.done, .int .i64 f.e]] w fun e w' => Ret w w' e (lkSee M f) aK cK ∧ Below w.heap.size w w' := by
  have hns := hM.ns
  have hnh := hM.nh.2
  have hcur := hf.cur.2
  have hc1 : f.cur ≤ 1000 := by omega
  have hn1 : M.slots.length ≤ 1000 := by omega
  obtain ⟨b0, b1⟩ := bkOf_in hM hf.call
  obtain ⟨b, hb⟩ : ∃ b : Nat, bkOf M.heads.length f.c = b := ⟨_, (Int.toNat_of_nonneg b0).symm⟩
  have hbl : b < M.heads.length := by omega
  have hb4 : (b : Int) ≤ 1000 := by omega
  have hb5 : (0 : Int) ≤ b := by omega
  have HR : Hid (KRow w aK cK f.keys) := r
  have HBk : Hid (∀ W : World, Calls Try.prog 31 #[.agg #[.slice aS M.slots.length cS, .slice aH M.heads.length cH, .slice aF M.free.length cF, .slice aL M.locks.length cL, .int .i64 M.now], .agg #[.int .i64 f.c.kind, .int .i64 f.c.a, .int .i64 f.c.b, .int .i64 f.c.time, .int .i64 f.c.bk, .int .i64 f.c.slot]] W fun e w' => e = .returned (.int .i64 (b : Int)) ∧ Below W.heap.size W w') := fun W => hb ▸ frBucket_any aS _ aF aL _ _ _ _ cS cH cF cL M.now f.c W (by omega)
  by_cases hend : f.cur = -1 - (b : Int)
  · have hres : lkSee M f = endF f 5 := by unfold lkSee; rw [hb, if_pos hend]
    rw [hres]
    have hq : (f.cur == -1 - (b : Int)) = true := by simp [hend]
    obtain ⟨of, hof⟩ : ∃ o : Obj, o = .cells #[.int .i64 f.c.kind, .int .i64 f.c.a, .int .i64 f.c.b, .int .i64 f.c.time, .int .i64 f.c.bk, .int .i64 f.c.slot, .int .i64 f.pl, .int .i64 f.cur, .int .i64 f.prev, .int .i64 f.slot, .int .i64 f.n, .slice aK f.keys.length cK, .bool f.done, .int .i64 f.e] 51 := ⟨_, rfl⟩
    obtain ⟨oz, hoz⟩ : ∃ o : Obj, o = zeroFr := ⟨_, rfl⟩
    have HE : Hid (Lk w ((w.alloc of).alloc oz) B lo aS aH aF aL cS cH cF cL M f aK cK) := Lk.first m f aK cK hof hoz
    obtain ⟨q0, q1, q2, q3, q4, -, -, -, -, -, qs⟩ := boxf HE.out.m.box
    obtain ⟨f0, f1, f2, f3, f4, f5, f6, f7, f8, f9, f10, f11, f12, f13, ff, fs⟩ := framef HE.out.fb
    unfold zeroFr at hoz
    clear m hres hend hc1 hn1 hcur hns hnh hM hf hb b0 b1 r
    go_enter Try.func91, Try.ntmps91
    go_wp2_with fail
    rw [← hof, ← hoz]
    generalize (w.alloc of).alloc oz = W0 at *
    subst hof hoz
    have cB : ∀ (d : Nat) (os : Array Obj), Calls Try.prog 31 #[.agg #[.slice aS M.slots.length cS, .slice aH M.heads.length cH, .slice aF M.free.length cF, .slice aL M.locks.length cL, .int .i64 M.now], .agg #[.int .i64 f.c.kind, .int .i64 f.c.a, .int .i64 f.c.b, .int .i64 f.c.time, .int .i64 f.c.bk, .int .i64 f.c.slot]] (grow (redrawn W0 d) os) fun e w'' => e = .returned (.int .i64 (b : Int)) ∧ ∃ p : Regrown, w'' = grow (redrawn W0 p.d) p.os := fun d os => Calls.regrown_of (HBk.out _)
    have cT : ∀ (d : Nat) (os : Array Obj), Calls Try.prog 139 #[.int .i64 (b : Int)] (grow (redrawn W0 d) os) fun e w'' => e = .returned (.int .i64 (-1 - (b : Int))) ∧ ∃ p : Regrown, w'' = grow (redrawn W0 p.d) p.os := fun d os => Calls.regrown_of ((toEnd_any _ _ hb5 hb4).mono (by rintro e w' ⟨rfl, rfl⟩; exact ⟨rfl, Below.refl _ _⟩))
    have Q0 := cell_regrown q0; have Q1 := cell_regrown q1; have Q2 := cell_regrown q2; have Q3 := cell_regrown q3; have Q4 := cell_regrown q4
    have F0 := cell_regrown f0; have F1 := cell_regrown f1; have F2 := cell_regrown f2; have F3 := cell_regrown f3; have F4 := cell_regrown f4; have F5 := cell_regrown f5; have F7 := cell_regrown f7
    clear q0 q1 q2 q3 q4 qs f0 f1 f2 f3 f4 f5 f6 f7 f8 f9 f10 f11 f12 f13 ff fs
    refine wp_region_quiet_below (by kernel_rfl) (by kernel_rfl) ?_
    repeat (quiet_step (first | exact cB _ _ | exact cT _ _))
    refine wpQuiet_nil ?_
    intro _ hw'
    obtain ⟨⟨dq, osq⟩, hw''⟩ := hw'
    subst hw''
    have HB1 : Hid _ := below_regrown W0 dq osq
    generalize grow (redrawn W0 dq) osq = w1 at *
    clear cB cT Q0 Q1 Q2 Q3 Q4 F0 F1 F2 F3 F4 F5 F7
    have HE1 : Hid (Lk w w1 B lo aS aH aF aL cS cH cF cL M f aK cK) := HE.out.below HB1.out
    clear HB1 HE
    obtain ⟨q0, q1, q2, q3, q4, -, -, -, -, -, qs⟩ := boxf HE1.out.m.box
    obtain ⟨f0, f1, f2, f3, f4, f5, f6, f7, f8, f9, f10, f11, f12, f13, ff, fs⟩ := framef HE1.out.fb
    go_wp2_with fail
    refine (endFr_hi f 5 aK cK _ (HR.out.below HE1.out.bl)).mono ?_
    rintro e w9 ⟨a9, c9, rfl, hr9, hi9, hb9⟩
    have HK9 : Hid (KRow w9 a9 c9 f.keys ∧ ∀ ad, a9 = some ad → w.heap.size + 2 ≤ ad.block) := ⟨hr9, fun ad h => Nat.le_trans (lt_of_block HE1.out.zb) (hi9 ad h)⟩
    have HE9 : Hid (Lk w w9 B lo aS aH aF aL cS cH cF cL M f aK cK) := HE1.out.below hb9
    clear HE1 hb9 hr9 hi9
    clear q0 q1 q2 q3 q4 qs f0 f1 f2 f3 f4 f5 f6 f7 f8 f9 f10 f11 f12 f13 ff fs
    obtain ⟨g0, g1, g2, g3, g4, g5, g6, g7, g8, g9, g10, g11, g12, g13, gf, gs⟩ := framef HE9.out.zb
    go_wp2
    refine bodyPost_ret (v := .agg #[.int .i64 (endF f 5).c.kind, .int .i64 (endF f 5).c.a, .int .i64 (endF f 5).c.b, .int .i64 (endF f 5).c.time, .int .i64 (endF f 5).c.bk, .int .i64 (endF f 5).c.slot, .int .i64 (endF f 5).pl, .int .i64 (endF f 5).cur, .int .i64 (endF f 5).prev, .int .i64 (endF f 5).slot, .int .i64 (endF f 5).n, .slice a9 (endF f 5).keys.length c9, .bool (endF f 5).done, .int .i64 (endF f 5).e]) (by simp [results, Try.results91, go_sem, endF, g0, g1, g2, g3, g4, g5, g6, g7, g8, g9, g10, g11, g12, g13]) rfl ⟨⟨a9, c9, rfl, krow14 HK9.out.1 HK9.out.2, (fun ad h => .inr (by have := HK9.out.2 ad h; omega)), fun h => by cases h⟩, set14 HE9.out.bl⟩
  have hq : (f.cur == -1 - (b : Int)) = false := by simpa using hend
  by_cases hat : isAt M f = true
  · have h1 := isAt_iff.1 hat
    obtain ⟨j, hj⟩ : ∃ j : Nat, f.cur - 1 = j := ⟨(f.cur - 1).toNat, by omega⟩
    have hjl : j < M.slots.length := by omega
    obtain ⟨gS, rfl, oS, lS, kS, -⟩ := row_form m.c.s (by omega)
    obtain ⟨s, hs⟩ : ∃ s, s = slotAt M (j : Int) := ⟨_, rfl⟩
    have hst : stN f = j := by unfold stN; rw [if_neg (by omega)]; exact hj
    have hres : lkSee M f = toF f (if lkK s f then 3 else 2) := by unfold lkSee; rw [hb, if_neg hend, if_pos hat, hj, ← hs]
    rw [hres]
    have HSt : Hid (∀ (W : World), Mine W B lo (some ⟨gS, 0, none⟩) aH aF aL cS cH cF cL M → Calls Try.prog 149 #[.pointer (some ⟨B, 0, none⟩), .agg #[.int .i64 f.c.kind, .int .i64 f.c.a, .int .i64 f.c.b, .int .i64 f.c.time, .int .i64 f.c.bk, .int .i64 f.c.slot, .int .i64 f.pl, .int .i64 f.cur, .int .i64 f.prev, .int .i64 f.slot, .int .i64 f.n, .slice aK f.keys.length cK, .bool f.done, .int .i64 f.e]] W fun e w' => e = .returned (.tuple #[.int .i64 (j : Int), .bool true]) ∧ Below W.heap.size W w') := fun W m' => by
      have := standsAt_any M f B _ aH aF aL cS cH cF cL aK cK W m'.box hc1 hn1
      rwa [hst, hat] at this
    have HX : Hid (∀ W, Mine W B lo (some ⟨gS, 0, none⟩) aH aF aL cS cH cF cL M → W.cell? ⟨gS, j * 6 + 1, none⟩ = some (.int .i64 s.a) ∧ W.cell? ⟨gS, j * 6 + 2, none⟩ = some (.int .i64 s.b)) := fun W m' => ⟨(slotAt_cells m'.c.s hjl hs).2.1, (slotAt_cells m'.c.s hjl hs).2.2.1⟩
    have hk : (s.a == f.c.a && s.b == f.c.b) = lkK s f := rfl
    cases hkk : lkK s f
    · rw [hkk] at hk
      show Calls Try.prog 91 _ w fun e w' => Ret w w' e (toF f 2) aK cK ∧ Below w.heap.size w w'
      have se : ∀ W : World, (Op.equalIn 10000 37 (.agg #[.int .i64 s.a, .int .i64 s.b]) (.agg #[.int .i64 f.c.a, .int .i64 f.c.b])).run Try.prog W = .ok false W := fun W => by rw [kequal, hk]
      obtain ⟨of, hof⟩ : ∃ o : Obj, o = .cells #[.int .i64 f.c.kind, .int .i64 f.c.a, .int .i64 f.c.b, .int .i64 f.c.time, .int .i64 f.c.bk, .int .i64 f.c.slot, .int .i64 f.pl, .int .i64 f.cur, .int .i64 f.prev, .int .i64 f.slot, .int .i64 f.n, .slice aK f.keys.length cK, .bool f.done, .int .i64 f.e] 51 := ⟨_, rfl⟩
      obtain ⟨oz, hoz⟩ : ∃ o : Obj, o = zeroFr := ⟨_, rfl⟩
      have HE : Hid (Lk w ((w.alloc of).alloc oz) B lo (some ⟨gS, 0, none⟩) aH aF aL cS cH cF cL M f aK cK) := Lk.first m f aK cK hof hoz
      obtain ⟨q0, q1, q2, q3, q4, -, -, -, -, -, qs⟩ := boxf HE.out.m.box
      obtain ⟨f0, f1, f2, f3, f4, f5, f6, f7, f8, f9, f10, f11, f12, f13, ff, fs⟩ := framef HE.out.fb
      unfold zeroFr at hoz
      clear m hk hkk hres hs hst hat h1 hend hc1 hn1 hcur hns hnh hM hf hb b0 b1 r
      go_enter Try.func91, Try.ntmps91
      go_wp2_with fail
      rw [← hof, ← hoz]
      generalize (w.alloc of).alloc oz = W0 at *
      subst hof hoz
      have cB : ∀ (d : Nat) (os : Array Obj), Calls Try.prog 31 #[.agg #[.slice (some ⟨gS, 0, none⟩) M.slots.length cS, .slice aH M.heads.length cH, .slice aF M.free.length cF, .slice aL M.locks.length cL, .int .i64 M.now], .agg #[.int .i64 f.c.kind, .int .i64 f.c.a, .int .i64 f.c.b, .int .i64 f.c.time, .int .i64 f.c.bk, .int .i64 f.c.slot]] (grow (redrawn W0 d) os) fun e w'' => e = .returned (.int .i64 (b : Int)) ∧ ∃ p : Regrown, w'' = grow (redrawn W0 p.d) p.os := fun d os => Calls.regrown_of (HBk.out _)
      have cT : ∀ (d : Nat) (os : Array Obj), Calls Try.prog 139 #[.int .i64 (b : Int)] (grow (redrawn W0 d) os) fun e w'' => e = .returned (.int .i64 (-1 - (b : Int))) ∧ ∃ p : Regrown, w'' = grow (redrawn W0 p.d) p.os := fun d os => Calls.regrown_of ((toEnd_any _ _ hb5 hb4).mono (by rintro e w' ⟨rfl, rfl⟩; exact ⟨rfl, Below.refl _ _⟩))
      have Q0 := cell_regrown q0; have Q1 := cell_regrown q1; have Q2 := cell_regrown q2; have Q3 := cell_regrown q3; have Q4 := cell_regrown q4
      have F0 := cell_regrown f0; have F1 := cell_regrown f1; have F2 := cell_regrown f2; have F3 := cell_regrown f3; have F4 := cell_regrown f4; have F5 := cell_regrown f5; have F7 := cell_regrown f7
      clear q0 q1 q2 q3 q4 qs f0 f1 f2 f3 f4 f5 f6 f7 f8 f9 f10 f11 f12 f13 ff fs
      refine wp_region_quiet_below (by kernel_rfl) (by kernel_rfl) ?_
      repeat (quiet_step (first | exact cB _ _ | exact cT _ _))
      refine wpQuiet_nil ?_
      intro _ hw'
      obtain ⟨⟨dq, osq⟩, hw''⟩ := hw'
      subst hw''
      have HB1 : Hid _ := below_regrown W0 dq osq
      generalize grow (redrawn W0 dq) osq = w1 at *
      clear cB cT Q0 Q1 Q2 Q3 Q4 F0 F1 F2 F3 F4 F5 F7
      have HE1 : Hid (Lk w w1 B lo (some ⟨gS, 0, none⟩) aH aF aL cS cH cF cL M f aK cK) := HE.out.below HB1.out
      clear HB1 HE
      obtain ⟨q0, q1, q2, q3, q4, -, -, -, -, -, qs⟩ := boxf HE1.out.m.box
      obtain ⟨f0, f1, f2, f3, f4, f5, f6, f7, f8, f9, f10, f11, f12, f13, ff, fs⟩ := framef HE1.out.fb
      go_wp2_with fail
      refine (HSt.out w1 HE1.out.m).mono ?_
      rintro e w3 ⟨rfl, hb3⟩
      have HE3 : Hid (Lk w w3 B lo (some ⟨gS, 0, none⟩) aH aF aL cS cH cF cL M f aK cK) := HE1.out.below hb3
      clear HE1 hb3
      clear q0 q1 q2 q3 q4 qs f0 f1 f2 f3 f4 f5 f6 f7 f8 f9 f10 f11 f12 f13 ff fs
      obtain ⟨q0, q1, q2, q3, q4, -, -, -, -, -, qs⟩ := boxf HE3.out.m.box
      obtain ⟨f0, f1, f2, f3, f4, f5, f6, f7, f8, f9, f10, f11, f12, f13, ff, fs⟩ := framef HE3.out.fb
      obtain ⟨x1, x2⟩ := HX.out w3 HE3.out.m
      go_wp2_with fail
      go_quiet (fail)
      go_wp2_with fail
      have HE4 : Hid (Lk w (w3.drewN nq) B lo (some ⟨gS, 0, none⟩) aH aF aL cS cH cF cL M f aK cK) := HE3.out.below ⟨rfl, rfl, rfl, Nat.le_refl _, fun _ _ => rfl⟩
      clear HE3
      refine (to_any f 2 aK cK _).mono ?_
      rintro e w9 ⟨rfl, hb9⟩
      have HE9 : Hid (Lk w w9 B lo (some ⟨gS, 0, none⟩) aH aF aL cS cH cF cL M f aK cK) := HE4.out.below hb9
      clear HE4 hb9
      clear q0 q1 q2 q3 q4 qs f0 f1 f2 f3 f4 f5 f6 f7 f8 f9 f10 f11 f12 f13 ff fs
      obtain ⟨g0, g1, g2, g3, g4, g5, g6, g7, g8, g9, g10, g11, g12, g13, gf, gs⟩ := framef HE9.out.zb
      go_wp2
      refine bodyPost_ret (v := .agg #[.int .i64 (toF f 2).c.kind, .int .i64 (toF f 2).c.a, .int .i64 (toF f 2).c.b, .int .i64 (toF f 2).c.time, .int .i64 (toF f 2).c.bk, .int .i64 (toF f 2).c.slot, .int .i64 (toF f 2).pl, .int .i64 (toF f 2).cur, .int .i64 (toF f 2).prev, .int .i64 (toF f 2).slot, .int .i64 (toF f 2).n, .slice aK (toF f 2).keys.length cK, .bool (toF f 2).done, .int .i64 (toF f 2).e]) (by simp [results, Try.results91, go_sem, toF, g0, g1, g2, g3, g4, g5, g6, g7, g8, g9, g10, g11, g12, g13]) rfl ⟨⟨aK, cK, rfl, HR.out.below (set14 HE9.out.bl), (fun ad h => .inl h), fun _ => ⟨rfl, rfl⟩⟩, set14 HE9.out.bl⟩
    · rw [hkk] at hk
      show Calls Try.prog 91 _ w fun e w' => Ret w w' e (toF f 3) aK cK ∧ Below w.heap.size w w'
      have se : ∀ W : World, (Op.equalIn 10000 37 (.agg #[.int .i64 s.a, .int .i64 s.b]) (.agg #[.int .i64 f.c.a, .int .i64 f.c.b])).run Try.prog W = .ok true W := fun W => by rw [kequal, hk]
      obtain ⟨of, hof⟩ : ∃ o : Obj, o = .cells #[.int .i64 f.c.kind, .int .i64 f.c.a, .int .i64 f.c.b, .int .i64 f.c.time, .int .i64 f.c.bk, .int .i64 f.c.slot, .int .i64 f.pl, .int .i64 f.cur, .int .i64 f.prev, .int .i64 f.slot, .int .i64 f.n, .slice aK f.keys.length cK, .bool f.done, .int .i64 f.e] 51 := ⟨_, rfl⟩
      obtain ⟨oz, hoz⟩ : ∃ o : Obj, o = zeroFr := ⟨_, rfl⟩
      have HE : Hid (Lk w ((w.alloc of).alloc oz) B lo (some ⟨gS, 0, none⟩) aH aF aL cS cH cF cL M f aK cK) := Lk.first m f aK cK hof hoz
      obtain ⟨q0, q1, q2, q3, q4, -, -, -, -, -, qs⟩ := boxf HE.out.m.box
      obtain ⟨f0, f1, f2, f3, f4, f5, f6, f7, f8, f9, f10, f11, f12, f13, ff, fs⟩ := framef HE.out.fb
      unfold zeroFr at hoz
      clear m hk hkk hres hs hst hat h1 hend hc1 hn1 hcur hns hnh hM hf hb b0 b1 r
      go_enter Try.func91, Try.ntmps91
      go_wp2_with fail
      rw [← hof, ← hoz]
      generalize (w.alloc of).alloc oz = W0 at *
      subst hof hoz
      have cB : ∀ (d : Nat) (os : Array Obj), Calls Try.prog 31 #[.agg #[.slice (some ⟨gS, 0, none⟩) M.slots.length cS, .slice aH M.heads.length cH, .slice aF M.free.length cF, .slice aL M.locks.length cL, .int .i64 M.now], .agg #[.int .i64 f.c.kind, .int .i64 f.c.a, .int .i64 f.c.b, .int .i64 f.c.time, .int .i64 f.c.bk, .int .i64 f.c.slot]] (grow (redrawn W0 d) os) fun e w'' => e = .returned (.int .i64 (b : Int)) ∧ ∃ p : Regrown, w'' = grow (redrawn W0 p.d) p.os := fun d os => Calls.regrown_of (HBk.out _)
      have cT : ∀ (d : Nat) (os : Array Obj), Calls Try.prog 139 #[.int .i64 (b : Int)] (grow (redrawn W0 d) os) fun e w'' => e = .returned (.int .i64 (-1 - (b : Int))) ∧ ∃ p : Regrown, w'' = grow (redrawn W0 p.d) p.os := fun d os => Calls.regrown_of ((toEnd_any _ _ hb5 hb4).mono (by rintro e w' ⟨rfl, rfl⟩; exact ⟨rfl, Below.refl _ _⟩))
      have Q0 := cell_regrown q0; have Q1 := cell_regrown q1; have Q2 := cell_regrown q2; have Q3 := cell_regrown q3; have Q4 := cell_regrown q4
      have F0 := cell_regrown f0; have F1 := cell_regrown f1; have F2 := cell_regrown f2; have F3 := cell_regrown f3; have F4 := cell_regrown f4; have F5 := cell_regrown f5; have F7 := cell_regrown f7
      clear q0 q1 q2 q3 q4 qs f0 f1 f2 f3 f4 f5 f6 f7 f8 f9 f10 f11 f12 f13 ff fs
      refine wp_region_quiet_below (by kernel_rfl) (by kernel_rfl) ?_
      repeat (quiet_step (first | exact cB _ _ | exact cT _ _))
      refine wpQuiet_nil ?_
      intro _ hw'
      obtain ⟨⟨dq, osq⟩, hw''⟩ := hw'
      subst hw''
      have HB1 : Hid _ := below_regrown W0 dq osq
      generalize grow (redrawn W0 dq) osq = w1 at *
      clear cB cT Q0 Q1 Q2 Q3 Q4 F0 F1 F2 F3 F4 F5 F7
      have HE1 : Hid (Lk w w1 B lo (some ⟨gS, 0, none⟩) aH aF aL cS cH cF cL M f aK cK) := HE.out.below HB1.out
      clear HB1 HE
      obtain ⟨q0, q1, q2, q3, q4, -, -, -, -, -, qs⟩ := boxf HE1.out.m.box
      obtain ⟨f0, f1, f2, f3, f4, f5, f6, f7, f8, f9, f10, f11, f12, f13, ff, fs⟩ := framef HE1.out.fb
      go_wp2_with fail
      refine (HSt.out w1 HE1.out.m).mono ?_
      rintro e w3 ⟨rfl, hb3⟩
      have HE3 : Hid (Lk w w3 B lo (some ⟨gS, 0, none⟩) aH aF aL cS cH cF cL M f aK cK) := HE1.out.below hb3
      clear HE1 hb3
      clear q0 q1 q2 q3 q4 qs f0 f1 f2 f3 f4 f5 f6 f7 f8 f9 f10 f11 f12 f13 ff fs
      obtain ⟨q0, q1, q2, q3, q4, -, -, -, -, -, qs⟩ := boxf HE3.out.m.box
      obtain ⟨f0, f1, f2, f3, f4, f5, f6, f7, f8, f9, f10, f11, f12, f13, ff, fs⟩ := framef HE3.out.fb
      obtain ⟨x1, x2⟩ := HX.out w3 HE3.out.m
      go_wp2_with fail
      go_quiet (fail)
      go_wp2_with fail
      have HE4 : Hid (Lk w (w3.drewN nq) B lo (some ⟨gS, 0, none⟩) aH aF aL cS cH cF cL M f aK cK) := HE3.out.below ⟨rfl, rfl, rfl, Nat.le_refl _, fun _ _ => rfl⟩
      clear HE3
      refine (to_any f 3 aK cK _).mono ?_
      rintro e w9 ⟨rfl, hb9⟩
      have HE9 : Hid (Lk w w9 B lo (some ⟨gS, 0, none⟩) aH aF aL cS cH cF cL M f aK cK) := HE4.out.below hb9
      clear HE4 hb9
      clear q0 q1 q2 q3 q4 qs f0 f1 f2 f3 f4 f5 f6 f7 f8 f9 f10 f11 f12 f13 ff fs
      obtain ⟨g0, g1, g2, g3, g4, g5, g6, g7, g8, g9, g10, g11, g12, g13, gf, gs⟩ := framef HE9.out.zb
      go_wp2
      refine bodyPost_ret (v := .agg #[.int .i64 (toF f 3).c.kind, .int .i64 (toF f 3).c.a, .int .i64 (toF f 3).c.b, .int .i64 (toF f 3).c.time, .int .i64 (toF f 3).c.bk, .int .i64 (toF f 3).c.slot, .int .i64 (toF f 3).pl, .int .i64 (toF f 3).cur, .int .i64 (toF f 3).prev, .int .i64 (toF f 3).slot, .int .i64 (toF f 3).n, .slice aK (toF f 3).keys.length cK, .bool (toF f 3).done, .int .i64 (toF f 3).e]) (by simp [results, Try.results91, go_sem, toF, g0, g1, g2, g3, g4, g5, g6, g7, g8, g9, g10, g11, g12, g13]) rfl ⟨⟨aK, cK, rfl, HR.out.below (set14 HE9.out.bl), (fun ad h => .inl h), fun _ => ⟨rfl, rfl⟩⟩, set14 HE9.out.bl⟩
  · have hat0 : isAt M f = false := by simpa using hat
    have hres : lkSee M f = toF f 0 := by unfold lkSee; rw [hb, if_neg hend, if_neg hat]
    rw [hres]
    have HSt : Hid (∀ (W : World), Mine W B lo aS aH aF aL cS cH cF cL M → Calls Try.prog 149 #[.pointer (some ⟨B, 0, none⟩), .agg #[.int .i64 f.c.kind, .int .i64 f.c.a, .int .i64 f.c.b, .int .i64 f.c.time, .int .i64 f.c.bk, .int .i64 f.c.slot, .int .i64 f.pl, .int .i64 f.cur, .int .i64 f.prev, .int .i64 f.slot, .int .i64 f.n, .slice aK f.keys.length cK, .bool f.done, .int .i64 f.e]] W fun e w' => e = .returned (.tuple #[.int .i64 (stN f), .bool false]) ∧ Below W.heap.size W w') := fun W m' => by
      have := standsAt_any M f B _ aH aF aL cS cH cF cL aK cK W m'.box hc1 hn1
      rwa [hat0] at this
    obtain ⟨of, hof⟩ : ∃ o : Obj, o = .cells #[.int .i64 f.c.kind, .int .i64 f.c.a, .int .i64 f.c.b, .int .i64 f.c.time, .int .i64 f.c.bk, .int .i64 f.c.slot, .int .i64 f.pl, .int .i64 f.cur, .int .i64 f.prev, .int .i64 f.slot, .int .i64 f.n, .slice aK f.keys.length cK, .bool f.done, .int .i64 f.e] 51 := ⟨_, rfl⟩
    obtain ⟨oz, hoz⟩ : ∃ o : Obj, o = zeroFr := ⟨_, rfl⟩
    have HE : Hid (Lk w ((w.alloc of).alloc oz) B lo aS aH aF aL cS cH cF cL M f aK cK) := Lk.first m f aK cK hof hoz
    obtain ⟨q0, q1, q2, q3, q4, -, -, -, -, -, qs⟩ := boxf HE.out.m.box
    obtain ⟨f0, f1, f2, f3, f4, f5, f6, f7, f8, f9, f10, f11, f12, f13, ff, fs⟩ := framef HE.out.fb
    unfold zeroFr at hoz
    clear m hres hat hat0 hend hc1 hn1 hcur hns hnh hM hf hb b0 b1 r
    go_enter Try.func91, Try.ntmps91
    go_wp2_with fail
    rw [← hof, ← hoz]
    generalize (w.alloc of).alloc oz = W0 at *
    subst hof hoz
    have cB : ∀ (d : Nat) (os : Array Obj), Calls Try.prog 31 #[.agg #[.slice aS M.slots.length cS, .slice aH M.heads.length cH, .slice aF M.free.length cF, .slice aL M.locks.length cL, .int .i64 M.now], .agg #[.int .i64 f.c.kind, .int .i64 f.c.a, .int .i64 f.c.b, .int .i64 f.c.time, .int .i64 f.c.bk, .int .i64 f.c.slot]] (grow (redrawn W0 d) os) fun e w'' => e = .returned (.int .i64 (b : Int)) ∧ ∃ p : Regrown, w'' = grow (redrawn W0 p.d) p.os := fun d os => Calls.regrown_of (HBk.out _)
    have cT : ∀ (d : Nat) (os : Array Obj), Calls Try.prog 139 #[.int .i64 (b : Int)] (grow (redrawn W0 d) os) fun e w'' => e = .returned (.int .i64 (-1 - (b : Int))) ∧ ∃ p : Regrown, w'' = grow (redrawn W0 p.d) p.os := fun d os => Calls.regrown_of ((toEnd_any _ _ hb5 hb4).mono (by rintro e w' ⟨rfl, rfl⟩; exact ⟨rfl, Below.refl _ _⟩))
    have Q0 := cell_regrown q0; have Q1 := cell_regrown q1; have Q2 := cell_regrown q2; have Q3 := cell_regrown q3; have Q4 := cell_regrown q4
    have F0 := cell_regrown f0; have F1 := cell_regrown f1; have F2 := cell_regrown f2; have F3 := cell_regrown f3; have F4 := cell_regrown f4; have F5 := cell_regrown f5; have F7 := cell_regrown f7
    clear q0 q1 q2 q3 q4 qs f0 f1 f2 f3 f4 f5 f6 f7 f8 f9 f10 f11 f12 f13 ff fs
    refine wp_region_quiet_below (by kernel_rfl) (by kernel_rfl) ?_
    repeat (quiet_step (first | exact cB _ _ | exact cT _ _))
    refine wpQuiet_nil ?_
    intro _ hw'
    obtain ⟨⟨dq, osq⟩, hw''⟩ := hw'
    subst hw''
    have HB1 : Hid _ := below_regrown W0 dq osq
    generalize grow (redrawn W0 dq) osq = w1 at *
    clear cB cT Q0 Q1 Q2 Q3 Q4 F0 F1 F2 F3 F4 F5 F7
    have HE1 : Hid (Lk w w1 B lo aS aH aF aL cS cH cF cL M f aK cK) := HE.out.below HB1.out
    clear HB1 HE
    obtain ⟨q0, q1, q2, q3, q4, -, -, -, -, -, qs⟩ := boxf HE1.out.m.box
    obtain ⟨f0, f1, f2, f3, f4, f5, f6, f7, f8, f9, f10, f11, f12, f13, ff, fs⟩ := framef HE1.out.fb
    go_wp2_with fail
    refine (HSt.out w1 HE1.out.m).mono ?_
    rintro e w3 ⟨rfl, hb3⟩
    have HE3 : Hid (Lk w w3 B lo aS aH aF aL cS cH cF cL M f aK cK) := HE1.out.below hb3
    clear HE1 hb3
    clear q0 q1 q2 q3 q4 qs f0 f1 f2 f3 f4 f5 f6 f7 f8 f9 f10 f11 f12 f13 ff fs
    obtain ⟨q0, q1, q2, q3, q4, -, -, -, -, -, qs⟩ := boxf HE3.out.m.box
    obtain ⟨f0, f1, f2, f3, f4, f5, f6, f7, f8, f9, f10, f11, f12, f13, ff, fs⟩ := framef HE3.out.fb
    go_wp2_with fail
    refine (to_any f 0 aK cK _).mono ?_
    rintro e w9 ⟨rfl, hb9⟩
    have HE9 : Hid (Lk w w9 B lo aS aH aF aL cS cH cF cL M f aK cK) := HE3.out.below hb9
    clear HE3 hb9
    clear q0 q1 q2 q3 q4 qs f0 f1 f2 f3 f4 f5 f6 f7 f8 f9 f10 f11 f12 f13 ff fs
    obtain ⟨g0, g1, g2, g3, g4, g5, g6, g7, g8, g9, g10, g11, g12, g13, gf, gs⟩ := framef HE9.out.zb
    go_wp2
    refine bodyPost_ret (v := .agg #[.int .i64 (toF f 0).c.kind, .int .i64 (toF f 0).c.a, .int .i64 (toF f 0).c.b, .int .i64 (toF f 0).c.time, .int .i64 (toF f 0).c.bk, .int .i64 (toF f 0).c.slot, .int .i64 (toF f 0).pl, .int .i64 (toF f 0).cur, .int .i64 (toF f 0).prev, .int .i64 (toF f 0).slot, .int .i64 (toF f 0).n, .slice aK (toF f 0).keys.length cK, .bool (toF f 0).done, .int .i64 (toF f 0).e]) (by simp [results, Try.results91, go_sem, toF, g0, g1, g2, g3, g4, g5, g6, g7, g8, g9, g10, g11, g12, g13]) rfl ⟨⟨aK, cK, rfl, HR.out.below (set14 HE9.out.bl), (fun ad h => .inl h), fun _ => ⟨rfl, rfl⟩⟩, set14 HE9.out.bl⟩



end Go.Proofs.Ytdbilofhcadmoab.mm
