/- MemTells' walk: for every two numbers and two memories it answers true. -/
import Derived.Test.YtdbilofhcadmoaaFilled
import Derived.Test.YtdbilofhcadmoaaSame2
import Derived.Test.YtdbilofhcadmoaaRefB
import Derived.Test.YtdbilofhcadmoaaRefC
import Derived.Lib.QuietBelow
import Derived.Deep.QuietTactic
import Derived.Deep.RegionWith
import Derived.BigQuiet
namespace Go.Proofs.Ytdbilofhcadmoaa.mm
open Go.ChangeShapes Go.WideShapes Go.ChangeAt Go.RowKit Go.Joins Go.Deep Go.Sort
set_option maxRecDepth 100000
set_option linter.unusedVariables false

/- The boxes of two memories that came in. -/
structure Tl (w wr : World) (o1 o2 : Obj) : Prop where
  box : wr.heap[w.heap.size]? = some o1
  oth : wr.heap[w.heap.size + 1]? = some o2
  below : Below w.heap.size w wr
theorem Tl.keep {w wr w' : World} {o1 o2 : Obj} (I : Tl w wr o1 o2) (hb : Below wr.heap.size wr w') : Tl w w' o1 o2 :=
  ⟨(hb.block _ (lt_of_block I.box)).trans I.box, (hb.block _ (lt_of_block I.oth)).trans I.oth, I.below.trans (hb.mono I.below.size)⟩

theorem rsame_self (M : Mm) (v1 v2 : Value) (w : World) (A1 : Ans 0 w v1 M) (A2 : Ans 0 w v2 M) : Calls Try.prog 18 #[v1, v2] w fun e w' => e = .returned (.bool true) ∧ Below w.heap.size w w' := by
  have := rsame_any M M _ _ w 0 0 A1 A2
  rwa [(eqM_iff M M).2 rfl] at this
theorem rnew_at {n m : Nat} {NM : Mm} (h : newM n m = NM) (w : World) (hn : n ≤ 12) (h1 : 1 ≤ m) (h4 : m ≤ 4) : Calls Try.prog 19 #[.int .i64 n, .int .i64 m] w fun e w' => ∃ v, e = .returned v ∧ Ans w.heap.size w' v NM ∧ Below w.heap.size w w' := by
  subst h
  exact rnew_ok n m w hn h1 h4
theorem rsame_zero (w : World) : Calls Try.prog 18 #[.agg #[.slice none 0 0, .slice none 0 0, .slice none 0 0, .slice none 0 0, .int .i64 0], .agg #[.slice none 0 0, .slice none 0 0, .slice none 0 0, .slice none 0 0, .int .i64 0]] w fun e w' => e = .returned (.bool true) ∧ Below w.heap.size w w' := by
  have := rsame_any m0 m0 _ _ w 0 0 (ans0 0 w) (ans0 0 w)
  rwa [(eqM_iff m0 m0).2 rfl] at this

set_option maxRecDepth 100000 in
set_option maxHeartbeats 6400000 in
theorem tells_any (a b : Int) (M O : Mm) (v1 v2 : Value) (w : World) (A1 : Ans 0 w v1 M) (A2 : Ans 0 w v2 O) (ha : -9223372036854775808 ≤ a ∧ a ≤ 9223372036854775807) (hb : -9223372036854775808 ≤ b ∧ b ≤ 9223372036854775807) :
    Calls Try.prog 4 #[.int .i64 a, .int .i64 b, v1, v2] w fun e w' => e = .returned (.bool true) ∧ Below w.heap.size w w' := by
  obtain ⟨aS1, aH1, aF1, aL1, cS1, cH1, cF1, cL1, rfl, A1, -⟩ := A1
  obtain ⟨aS2, aH2, aF2, aL2, cS2, cH2, cF2, cL2, rfl, A2, -⟩ := A2
  have HA : Hid _ := A1
  have HB : Hid _ := A2
  clear A1 A2
  obtain ⟨o1, ho1⟩ : ∃ o : Obj, o = .cells #[.slice aS1 M.slots.length cS1, .slice aH1 M.heads.length cH1, .slice aF1 M.free.length cF1, .slice aL1 M.locks.length cL1, .int .i64 M.now] 29 := ⟨_, rfl⟩
  obtain ⟨o3, ho3⟩ : ∃ o : Obj, o = .cells #[.slice aS2 O.slots.length cS2, .slice aH2 O.heads.length cH2, .slice aF2 O.free.length cF2, .slice aL2 O.locks.length cL2, .int .i64 O.now] 29 := ⟨_, rfl⟩
  have HJ0 : Hid (Tl w ((w.alloc o1).alloc o3) o1 o3) := ⟨by rw [Below.heap_alloc _ _ _ (by simp), heap_alloc_new], by
    have := heap_alloc_new (w.alloc o1) o3
    rwa [show (w.alloc o1).heap.size = w.heap.size + 1 by simp] at this, below_alloc2 w o1 o3⟩
  by_cases hbad : newE a b = 3
  · have hcase : a < 0 ∨ (0 ≤ a ∧ 12 < a) ∨ (0 ≤ a ∧ a ≤ 12 ∧ b < 1) ∨ (0 ≤ a ∧ a ≤ 12 ∧ 1 ≤ b ∧ 4 < b) := by
      have : ¬ ((0 ≤ a ∧ a ≤ 12) ∧ (1 ≤ b ∧ b ≤ 4)) := fun hh => by
        unfold newE at hbad
        rw [inB_t hh.1.1 hh.1.2, inB_t hh.2.1 hh.2.2] at hbad
        simp at hbad
      omega
    have HNB : Hid _ := hbad
    clear hbad
    go_enter Try.func4, Try.ntmps4
    go_wp2_with fail
    rw [← ho1, ← ho3]
    generalize (w.alloc o1).alloc o3 = W0 at *
    subst ho1 ho3
    refine (new_bad a b W0 HNB.out).mono ?_
    rintro e w1 ⟨rfl, hb1⟩
    have HJ : Hid _ := (HJ0.out.keep hb1).keep (one_below _ (.cells #[.slice none 0 0, .slice none 0 0, .slice none 0 0, .slice none 0 0, .int .i64 0] 29))
    have HX : Hid ((w1.alloc (.cells #[.slice none 0 0, .slice none 0 0, .slice none 0 0, .slice none 0 0, .int .i64 0] 29)).heap[w1.heap.size]? = some (.cells #[.slice none 0 0, .slice none 0 0, .slice none 0 0, .slice none 0 0, .int .i64 0] 29 (0, 0))) := heap_alloc_new _ _
    have HAX : Hid (Ans 0 (w1.alloc (.cells #[.slice none 0 0, .slice none 0 0, .slice none 0 0, .slice none 0 0, .int .i64 0] 29)) (.agg #[.slice none 0 0, .slice none 0 0, .slice none 0 0, .slice none 0 0, .int .i64 0]) m0) := ans0 _ _
    clear hb1 HJ0
    go_wp2_with fail
    generalize w1.alloc (.cells #[.slice none 0 0, .slice none 0 0, .slice none 0 0, .slice none 0 0, .int .i64 0] 29) = wz at *
    generalize w1.heap.size = X at *
    have HJz : Hid (Tl w wz (.cells #[.slice aS1 M.slots.length cS1, .slice aH1 M.heads.length cH1, .slice aF1 M.free.length cF1, .slice aL1 M.locks.length cL1, .int .i64 M.now] 29) (.cells #[.slice aS2 O.slots.length cS2, .slice aH2 O.heads.length cH2, .slice aF2 O.free.length cF2, .slice aL2 O.locks.length cL2, .int .i64 O.now] 29)) := HJ.out
    obtain ⟨p0, p1, p2, p3, p4, -, -, -, -, -, ps⟩ := boxf HJ.out.box
    obtain ⟨s0, s1, s2, s3, s4, -, -, -, -, -, ss⟩ := boxf HJ.out.oth
    have HMz : Hid (Ans 0 wz (.agg #[.slice aS1 M.slots.length cS1, .slice aH1 M.heads.length cH1, .slice aF1 M.free.length cF1, .slice aL1 M.locks.length cL1, .int .i64 M.now]) M) := ⟨aS1, aH1, aF1, aL1, cS1, cH1, cF1, cL1, rfl, HA.out.below HJ.out.below, ⟨fun _ _ => Nat.zero_le _, fun _ _ => Nat.zero_le _, fun _ _ => Nat.zero_le _, fun _ _ => Nat.zero_le _⟩⟩
    have HOz : Hid (Ans 0 wz (.agg #[.slice aS2 O.slots.length cS2, .slice aH2 O.heads.length cH2, .slice aF2 O.free.length cF2, .slice aL2 O.locks.length cL2, .int .i64 O.now]) O) := ⟨aS2, aH2, aF2, aL2, cS2, cH2, cF2, cL2, rfl, HB.out.below HJ.out.below, ⟨fun _ _ => Nat.zero_le _, fun _ _ => Nat.zero_le _, fun _ _ => Nat.zero_le _, fun _ _ => Nat.zero_le _⟩⟩
    have cF : ∀ d os, Calls Try.prog 14 #[] (grow (redrawn wz d) os) fun e w'' => e = .returned (.bool true) ∧ ∃ p : Regrown, w'' = grow (redrawn wz p.d) p.os := fun d os => Calls.regrown_of (filled_any _)
    have cC : ∀ d os, Calls Try.prog 15 #[.agg #[.slice aS1 M.slots.length cS1, .slice aH1 M.heads.length cH1, .slice aF1 M.free.length cF1, .slice aL1 M.locks.length cL1, .int .i64 M.now]] (grow (redrawn wz d) os) fun e w'' => e = .returned (.int .i64 (chk M)) ∧ ∃ p : Regrown, w'' = grow (redrawn wz p.d) p.os := fun d os => Calls.regrown_of (check_any M _ _ _ _ _ _ _ _ _ ((HA.out.below HJz.out.below).below (below_regrown wz d os)))
    have cR : ∀ d os, Calls Try.prog 16 #[.agg #[.slice aS1 M.slots.length cS1, .slice aH1 M.heads.length cH1, .slice aF1 M.free.length cF1, .slice aL1 M.locks.length cL1, .int .i64 M.now]] (grow (redrawn wz d) os) fun e w'' => e = .returned (.int .i64 (chk M)) ∧ ∃ p : Regrown, w'' = grow (redrawn wz p.d) p.os := fun d os => Calls.regrown_of (rcheck_any M _ _ 0 (Ans.below HMz.out (below_regrown wz d os)))
    have cS : ∀ d os, Calls Try.prog 17 #[.agg #[.slice aS1 M.slots.length cS1, .slice aH1 M.heads.length cH1, .slice aF1 M.free.length cF1, .slice aL1 M.locks.length cL1, .int .i64 M.now], .agg #[.slice aS2 O.slots.length cS2, .slice aH2 O.heads.length cH2, .slice aF2 O.free.length cF2, .slice aL2 O.locks.length cL2, .int .i64 O.now]] (grow (redrawn wz d) os) fun e w'' => e = .returned (.bool (eqM M O)) ∧ ∃ p : Regrown, w'' = grow (redrawn wz p.d) p.os := fun d os => Calls.regrown_of (same_any M O _ _ _ 0 0 (Ans.below HMz.out (below_regrown wz d os)) (Ans.below HOz.out (below_regrown wz d os)))
    have cT : ∀ d os, Calls Try.prog 18 #[.agg #[.slice aS1 M.slots.length cS1, .slice aH1 M.heads.length cH1, .slice aF1 M.free.length cF1, .slice aL1 M.locks.length cL1, .int .i64 M.now], .agg #[.slice aS2 O.slots.length cS2, .slice aH2 O.heads.length cH2, .slice aF2 O.free.length cF2, .slice aL2 O.locks.length cL2, .int .i64 O.now]] (grow (redrawn wz d) os) fun e w'' => e = .returned (.bool (eqM M O)) ∧ ∃ p : Regrown, w'' = grow (redrawn wz p.d) p.os := fun d os => Calls.regrown_of (rsame_any M O _ _ _ 0 0 (Ans.below HMz.out (below_regrown wz d os)) (Ans.below HOz.out (below_regrown wz d os)))
    generalize hcM : chk M = cM at *
    generalize heM : eqM M O = eM at *
    clear hcM heM
    have K0 := cell_regrown p0
    have K1 := cell_regrown p1
    have K2 := cell_regrown p2
    have K3 := cell_regrown p3
    have K4 := cell_regrown p4
    have L0 := cell_regrown s0
    have L1 := cell_regrown s1
    have L2 := cell_regrown s2
    have L3 := cell_regrown s3
    have L4 := cell_regrown s4
    clear p0 p1 p2 p3 p4 s0 s1 s2 s3 s4 ps ss
    refine wp_region_quiet_below (by kernel_rfl) (by kernel_rfl) ?_
    repeat (quiet_step (first | exact cF _ _ | exact cC _ _ | exact cR _ _ | exact cS _ _ | exact cT _ _))
    refine wpQuiet_nil ?_
    intro _ hw'
    obtain ⟨⟨dq, osq⟩, hw''⟩ := hw'
    subst hw''
    have bR := below_regrown wz dq osq
    have HJ5 : Hid _ := HJ.out.keep bR
    have HX5 : Hid _ := (bR.block X (lt_of_block HX.out)).trans HX.out
    have HAX5 : Hid (Ans 0 _ _ _) := Ans.below HAX.out bR
    generalize grow (redrawn wz dq) osq = W5 at *
    clear K0 K1 K2 K3 K4 L0 L1 L2 L3 L4 cF cC cR cS cT bR HJz HMz HOz HJ HX HAX
    obtain ⟨q0, q1, q2, q3, q4, -, -, -, -, -, qs⟩ := boxf HX5.out
    rcases hcase with h | ⟨h1, h2⟩ | ⟨h1, h2, h3⟩ | ⟨h1, h2, h3, h4⟩
    all_goals
      go_wp2_with fail
      refine (rsame_zero W5).mono ?_
      rintro e w6 ⟨rfl, hb6⟩
      go_wp2
      go_ret
      exact ⟨rfl, HJ5.out.below.trans (hb6.mono HJ5.out.below.size)⟩
  · have hgood : (0 ≤ a ∧ a ≤ 12) ∧ (1 ≤ b ∧ b ≤ 4) := by
      unfold newE at hbad
      split at hbad
      · rename_i hh
        simp only [Bool.and_eq_true, inB_iff] at hh
        exact hh
      · exact absurd rfl hbad
    obtain ⟨n, rfl⟩ : ∃ n : Nat, a = n := ⟨a.toNat, by omega⟩
    obtain ⟨m, rfl⟩ : ∃ m : Nat, b = m := ⟨b.toNat, by omega⟩
    have hn : n ≤ 12 := by omega
    have h1 : 1 ≤ m := by omega
    have h4 : m ≤ 4 := by omega
    clear hbad hgood ha hb
    go_enter Try.func4, Try.ntmps4
    go_wp2_with fail
    rw [← ho1, ← ho3]
    generalize (w.alloc o1).alloc o3 = W0 at *
    subst ho1 ho3
    refine (new_ok n m W0 hn h1 h4).mono ?_
    rintro e w1 ⟨v3, rfl, ⟨aS3, aH3, aF3, aL3, cS3, cH3, cF3, cL3, rfl, A3, hi3⟩, hb1⟩
    generalize hNM : newM n m = NM at *
    have HNM : Hid _ := hNM
    clear hNM
    have HJ : Hid _ := (HJ0.out.keep hb1).keep (one_below _ (.cells #[.slice aS3 NM.slots.length cS3, .slice aH3 NM.heads.length cH3, .slice aF3 NM.free.length cF3, .slice aL3 NM.locks.length cL3, .int .i64 NM.now] 29))
    have HX : Hid ((w1.alloc (.cells #[.slice aS3 NM.slots.length cS3, .slice aH3 NM.heads.length cH3, .slice aF3 NM.free.length cF3, .slice aL3 NM.locks.length cL3, .int .i64 NM.now] 29)).heap[w1.heap.size]? = some (.cells #[.slice aS3 NM.slots.length cS3, .slice aH3 NM.heads.length cH3, .slice aF3 NM.free.length cF3, .slice aL3 NM.locks.length cL3, .int .i64 NM.now] 29 (0, 0))) := heap_alloc_new _ _
    have HAX : Hid (Ans 0 (w1.alloc (.cells #[.slice aS3 NM.slots.length cS3, .slice aH3 NM.heads.length cH3, .slice aF3 NM.free.length cF3, .slice aL3 NM.locks.length cL3, .int .i64 NM.now] 29)) (.agg #[.slice aS3 NM.slots.length cS3, .slice aH3 NM.heads.length cH3, .slice aF3 NM.free.length cF3, .slice aL3 NM.locks.length cL3, .int .i64 NM.now]) NM) := Ans.below ⟨aS3, aH3, aF3, aL3, cS3, cH3, cF3, cL3, rfl, A3, ⟨fun _ _ => Nat.zero_le _, fun _ _ => Nat.zero_le _, fun _ _ => Nat.zero_le _, fun _ _ => Nat.zero_le _⟩⟩ (one_below _ _)
    clear hb1 HJ0 A3 hi3
    go_wp2_with fail
    generalize w1.alloc (.cells #[.slice aS3 NM.slots.length cS3, .slice aH3 NM.heads.length cH3, .slice aF3 NM.free.length cF3, .slice aL3 NM.locks.length cL3, .int .i64 NM.now] 29) = wz at *
    generalize w1.heap.size = X at *
    have HJz : Hid (Tl w wz (.cells #[.slice aS1 M.slots.length cS1, .slice aH1 M.heads.length cH1, .slice aF1 M.free.length cF1, .slice aL1 M.locks.length cL1, .int .i64 M.now] 29) (.cells #[.slice aS2 O.slots.length cS2, .slice aH2 O.heads.length cH2, .slice aF2 O.free.length cF2, .slice aL2 O.locks.length cL2, .int .i64 O.now] 29)) := HJ.out
    obtain ⟨p0, p1, p2, p3, p4, -, -, -, -, -, ps⟩ := boxf HJ.out.box
    obtain ⟨s0, s1, s2, s3, s4, -, -, -, -, -, ss⟩ := boxf HJ.out.oth
    have HMz : Hid (Ans 0 wz (.agg #[.slice aS1 M.slots.length cS1, .slice aH1 M.heads.length cH1, .slice aF1 M.free.length cF1, .slice aL1 M.locks.length cL1, .int .i64 M.now]) M) := ⟨aS1, aH1, aF1, aL1, cS1, cH1, cF1, cL1, rfl, HA.out.below HJ.out.below, ⟨fun _ _ => Nat.zero_le _, fun _ _ => Nat.zero_le _, fun _ _ => Nat.zero_le _, fun _ _ => Nat.zero_le _⟩⟩
    have HOz : Hid (Ans 0 wz (.agg #[.slice aS2 O.slots.length cS2, .slice aH2 O.heads.length cH2, .slice aF2 O.free.length cF2, .slice aL2 O.locks.length cL2, .int .i64 O.now]) O) := ⟨aS2, aH2, aF2, aL2, cS2, cH2, cF2, cL2, rfl, HB.out.below HJ.out.below, ⟨fun _ _ => Nat.zero_le _, fun _ _ => Nat.zero_le _, fun _ _ => Nat.zero_le _, fun _ _ => Nat.zero_le _⟩⟩
    have cF : ∀ d os, Calls Try.prog 14 #[] (grow (redrawn wz d) os) fun e w'' => e = .returned (.bool true) ∧ ∃ p : Regrown, w'' = grow (redrawn wz p.d) p.os := fun d os => Calls.regrown_of (filled_any _)
    have cC : ∀ d os, Calls Try.prog 15 #[.agg #[.slice aS1 M.slots.length cS1, .slice aH1 M.heads.length cH1, .slice aF1 M.free.length cF1, .slice aL1 M.locks.length cL1, .int .i64 M.now]] (grow (redrawn wz d) os) fun e w'' => e = .returned (.int .i64 (chk M)) ∧ ∃ p : Regrown, w'' = grow (redrawn wz p.d) p.os := fun d os => Calls.regrown_of (check_any M _ _ _ _ _ _ _ _ _ ((HA.out.below HJz.out.below).below (below_regrown wz d os)))
    have cR : ∀ d os, Calls Try.prog 16 #[.agg #[.slice aS1 M.slots.length cS1, .slice aH1 M.heads.length cH1, .slice aF1 M.free.length cF1, .slice aL1 M.locks.length cL1, .int .i64 M.now]] (grow (redrawn wz d) os) fun e w'' => e = .returned (.int .i64 (chk M)) ∧ ∃ p : Regrown, w'' = grow (redrawn wz p.d) p.os := fun d os => Calls.regrown_of (rcheck_any M _ _ 0 (Ans.below HMz.out (below_regrown wz d os)))
    have cS : ∀ d os, Calls Try.prog 17 #[.agg #[.slice aS1 M.slots.length cS1, .slice aH1 M.heads.length cH1, .slice aF1 M.free.length cF1, .slice aL1 M.locks.length cL1, .int .i64 M.now], .agg #[.slice aS2 O.slots.length cS2, .slice aH2 O.heads.length cH2, .slice aF2 O.free.length cF2, .slice aL2 O.locks.length cL2, .int .i64 O.now]] (grow (redrawn wz d) os) fun e w'' => e = .returned (.bool (eqM M O)) ∧ ∃ p : Regrown, w'' = grow (redrawn wz p.d) p.os := fun d os => Calls.regrown_of (same_any M O _ _ _ 0 0 (Ans.below HMz.out (below_regrown wz d os)) (Ans.below HOz.out (below_regrown wz d os)))
    have cT : ∀ d os, Calls Try.prog 18 #[.agg #[.slice aS1 M.slots.length cS1, .slice aH1 M.heads.length cH1, .slice aF1 M.free.length cF1, .slice aL1 M.locks.length cL1, .int .i64 M.now], .agg #[.slice aS2 O.slots.length cS2, .slice aH2 O.heads.length cH2, .slice aF2 O.free.length cF2, .slice aL2 O.locks.length cL2, .int .i64 O.now]] (grow (redrawn wz d) os) fun e w'' => e = .returned (.bool (eqM M O)) ∧ ∃ p : Regrown, w'' = grow (redrawn wz p.d) p.os := fun d os => Calls.regrown_of (rsame_any M O _ _ _ 0 0 (Ans.below HMz.out (below_regrown wz d os)) (Ans.below HOz.out (below_regrown wz d os)))
    generalize hcM : chk M = cM at *
    generalize heM : eqM M O = eM at *
    clear hcM heM
    have K0 := cell_regrown p0
    have K1 := cell_regrown p1
    have K2 := cell_regrown p2
    have K3 := cell_regrown p3
    have K4 := cell_regrown p4
    have L0 := cell_regrown s0
    have L1 := cell_regrown s1
    have L2 := cell_regrown s2
    have L3 := cell_regrown s3
    have L4 := cell_regrown s4
    clear p0 p1 p2 p3 p4 s0 s1 s2 s3 s4 ps ss
    refine wp_region_quiet_below (by kernel_rfl) (by kernel_rfl) ?_
    repeat (quiet_step (first | exact cF _ _ | exact cC _ _ | exact cR _ _ | exact cS _ _ | exact cT _ _))
    refine wpQuiet_nil ?_
    intro _ hw'
    obtain ⟨⟨dq, osq⟩, hw''⟩ := hw'
    subst hw''
    have bR := below_regrown wz dq osq
    have HJ5 : Hid _ := HJ.out.keep bR
    have HX5 : Hid _ := (bR.block X (lt_of_block HX.out)).trans HX.out
    have HAX5 : Hid (Ans 0 _ _ _) := Ans.below HAX.out bR
    generalize grow (redrawn wz dq) osq = W5 at *
    clear K0 K1 K2 K3 K4 L0 L1 L2 L3 L4 cF cC cR cS cT bR HJz HMz HOz HJ HX HAX
    obtain ⟨q0, q1, q2, q3, q4, -, -, -, -, -, qs⟩ := boxf HX5.out
    go_wp2_with fail
    go_region_with (first
      | (go_at_call 19; refine (rnew_at HNM.out _ hn h1 h4).mono ?_; rintro e w9 ⟨v9, rfl, ⟨aS9, aH9, aF9, aL9, cS9, cH9, cF9, cL9, rfl, A9, hi9⟩, hb9⟩; have hb9' : Below W5.heap.size W5 w9 := ⟨hb9.os, hb9.tape, hb9.output, hb9.size, hb9.block⟩; have HA9x : Hid (Ans 0 w9 (.agg #[.slice aS3 NM.slots.length cS3, .slice aH3 NM.heads.length cH3, .slice aF3 NM.free.length cF3, .slice aL3 NM.locks.length cL3, .int .i64 NM.now]) NM) := Ans.below HAX5.out hb9'; have HA9 : Hid (Ans 0 w9 (.agg #[.slice aS9 NM.slots.length cS9, .slice aH9 NM.heads.length cH9, .slice aF9 NM.free.length cF9, .slice aL9 NM.locks.length cL9, .int .i64 NM.now]) NM) := ⟨aS9, aH9, aF9, aL9, cS9, cH9, cF9, cL9, rfl, A9, ⟨fun _ _ => Nat.zero_le _, fun _ _ => Nat.zero_le _, fun _ _ => Nat.zero_le _, fun _ _ => Nat.zero_le _⟩⟩; have HX9 : Hid _ := (hb9'.block X (lt_of_block HX5.out)).trans HX5.out; obtain ⟨y0, y1, y2, y3, y4, -, -, -, -, -, ys⟩ := boxf HX9.out; have HB9 : Hid (Below w.heap.size w w9) := HJ5.out.below.trans (hb9'.mono HJ5.out.below.size); clear hb9 hb9' A9 hi9)
      | (go_at_call 18; refine (rsame_self NM _ _ _ HA9x.out HA9.out).mono ?_; rintro e w10 ⟨rfl, hb10⟩; have HB10 : Hid (Below w.heap.size w w10) := HB9.out.trans (hb10.mono HB9.out.size); clear hb10))
    all_goals go_wp2
    all_goals go_ret
    all_goals exact ⟨rfl, HB10.out⟩


end Go.Proofs.Ytdbilofhcadmoaa.mm
