/- For any memory, frame and number of a task DropTouches returns true, and all three read afterwards as they read before: a step of a Drop changes one slot at most, its own chain's begin and lock, and what is free; keys stay. No condition. -/
import Derived.Test.YtdbilofhcadmoabEc06
import Derived.Test.YtdbilofhcadmoabEc22
import Derived.Test.YtdbilofhcadmoabEc26
import Derived.Test.YtdbilofhcadmoabEc27
import Derived.Deep.QuietTactic
import Derived.BigQuiet
import Derived.BigRegion
/- The contract of the statements' own changed: how many slots are unlike. -/
namespace Go.Proofs.Ytdbilofhcadmoab.mm
open Go.ChangeShapes Go.WideShapes Go.ChangeAt Go.RowKit Go.Joins Go.Deep
set_option maxRecDepth 100000
set_option linter.unusedVariables false

theorem changed_any (A B : Mm) (aS aH aF aL bS bH bF bL : Option Addr) (cS cH cF cL dS dH dF dL : Nat) (w : World) (r1 : SRow w aS cS A.slots) (r2 : SRow w bS dS B.slots) (hl : B.slots.length = A.slots.length) :
    Calls Try.prog 48 #[.agg #[.slice aS A.slots.length cS, .slice aH A.heads.length cH, .slice aF A.free.length cF, .slice aL A.locks.length cL, .int .i64 A.now], .agg #[.slice bS B.slots.length dS, .slice bH B.heads.length dH, .slice bF B.free.length dF, .slice bL B.locks.length dL, .int .i64 B.now]] w fun e w' => e = .returned (.int .i64 (dif A.slots B.slots A.slots.length : Nat)) ∧ Below w.heap.size w w' := by
  have m1 := r1.max; have m2 := r2.max
  have n1 : A.slots.length ≤ 9223372036854775807 := by omega
  have n2 : B.slots.length ≤ 9223372036854775807 := by omega
  obtain ⟨oa, hoa⟩ : ∃ o : Obj, o = .cells #[.slice aS A.slots.length cS, .slice aH A.heads.length cH, .slice aF A.free.length cF, .slice aL A.locks.length cL, .int .i64 A.now] 25 := ⟨_, rfl⟩
  obtain ⟨ob, hob⟩ : ∃ o : Obj, o = .cells #[.slice bS B.slots.length dS, .slice bH B.heads.length dH, .slice bF B.free.length dF, .slice bL B.locks.length dL, .int .i64 B.now] 25 := ⟨_, rfl⟩
  have HE0 : Hid (Env w ((w.alloc oa).alloc ob) [((w.alloc oa).heap.size, ob), (w.heap.size, oa)] []) := ((⟨Below.refl _ _, (fun p hp => by cases hp), (fun p hp => by cases hp)⟩ : Env w w [] []).alloc oa).alloc ob
  rw [show (w.alloc oa).heap.size = w.heap.size + 1 by simp] at HE0
  have HZ1 : Hid (∀ W : World, Below w.heap.size w W → SRow W aS cS A.slots) := fun W hb => r1.below hb
  have HZ2 : Hid (∀ W : World, Below w.heap.size w W → SRow W bS dS B.slots) := fun W hb => r2.below hb
  have HBk : Hid (∀ W : World, Env w W [(w.heap.size + 1, ob), (w.heap.size, oa)] [] → W.heap[w.heap.size]? = some (.cells #[.slice aS A.slots.length cS, .slice aH A.heads.length cH, .slice aF A.free.length cF, .slice aL A.locks.length cL, .int .i64 A.now] 25 (0, 0)) ∧ W.heap[w.heap.size + 1]? = some (.cells #[.slice bS B.slots.length dS, .slice bH B.heads.length dH, .slice bF B.free.length dF, .slice bL B.locks.length dL, .int .i64 B.now] 25 (0, 0))) := fun W E => ⟨hoa ▸ E.box _ (.tail _ (.head _)), hob ▸ E.box _ (.head _)⟩
  have HL : Hid (B.slots.length = A.slots.length) := hl
  clear r1 r2 hl
  go_enter Try.func48, Try.ntmps48
  obtain ⟨q0, q1, q2, q3, q4, -, -, -, -, -, qs⟩ := boxf (HBk.out _ HE0.out).1
  obtain ⟨p0, p1, p2, p3, p4, -, -, -, -, -, ps⟩ := boxf (HBk.out _ HE0.out).2
  go_wp2_with fail
  rw [← hoa, ← hob]
  generalize (w.alloc oa).alloc ob = W0 at *
  clear hoa hob HBk
  go_loopw [10, 5] (fun i n wr => ∃ k q : Nat, k ≤ A.slots.length ∧ i = .int .i64 k ∧ n = .int .i64 (dif A.slots B.slots k : Nat) ∧ wr = W0.drewN q) (fun i n _ => A.slots.length - (intOf i).toNat)
  case atStart => exact ⟨0, 0, Nat.zero_le _, rfl, rfl, rfl⟩
  case round =>
    obtain ⟨k, q, hk, rfl, rfl, rfl⟩ := hrel
    by_cases hlt : k < A.slots.length
    · have hlt2 : k < B.slots.length := by have := HL.out; omega
      rcases (HZ1.out _ HE0.out.bl).at_ with h0 | ⟨b1, o1, rfl, hc1⟩
      · omega
      rcases (HZ2.out _ HE0.out.bl).at_ with h0 | ⟨b2, o2, rfl, hc2⟩
      · omega
      obtain ⟨x0, x1, x2, x3, x4, x5⟩ := hc1 k hlt
      obtain ⟨y0, y1, y2, y3, y4, y5⟩ := hc2 k hlt2
      rw [← World.cell?_drewN (n := q)] at x0 x1 x2 x3 x4 x5 y0 y1 y2 y3 y4 y5 q0 q1 q2 q3 q4 p0 p1 p2 p3 p4
      clear hc1 hc2
      generalize hwq : W0.drewN q = wq at x0 x1 x2 x3 x4 x5 y0 y1 y2 y3 y4 y5 q0 q1 q2 q3 q4 p0 p1 p2 p3 p4 ⊢
      have HWQ : Hid _ := hwq
      clear hwq
      have hd0 := dif_le A.slots B.slots k
      have HD : Hid (dif A.slots B.slots (k + 1) = dif A.slots B.slots k + if slEq (A.slots[k]) (B.slots[k]) then 0 else 1) := by
        show dif A.slots B.slots k + _ = _
        rw [getD_lt _ _ hlt, getD_lt _ _ hlt2]
      generalize hx : A.slots[k] = x at x0 x1 x2 x3 x4 x5 HD
      generalize hy : B.slots[k] = y at y0 y1 y2 y3 y4 y5 HD
      generalize hdd : dif A.slots B.slots k = dd at hd0 HD ⊢
      have HDD : Hid _ := hdd
      clear hx hy hdd
      have hdm : dd ≤ 9223372036854775000 := by omega
      have se := sequal x y
      cases hxy : slEq x y
      · have HV : Hid (dif A.slots B.slots (k + 1) = dd + 1) := by have := HD.out; rw [hxy] at this; exact this
        go_wp2_with fail
        go_quiet (fail)
        go_wp2
        go_roundw
        case rel => exact ⟨k + 1, q + nq, by omega, by go_num, by rw [HV.out]; go_num, by rw [← HWQ.out, World.drewN_drewN]⟩
        case measure => simp [intOf]; omega
      · have HV : Hid (dif A.slots B.slots (k + 1) = dd) := by have := HD.out; rw [hxy] at this; exact this
        go_wp2_with fail
        go_quiet (fail)
        go_wp2
        go_roundw
        case rel => exact ⟨k + 1, q + nq, by omega, by go_num, by rw [HV.out], by rw [← HWQ.out, World.drewN_drewN]⟩
        case measure => simp [intOf]; omega
    · obtain rfl : k = A.slots.length := by omega
      go_wp2
      go_ret
      exact ⟨rfl, HE0.out.bl.trans ((drewN_below _ _).mono HE0.out.bl.size)⟩



end Go.Proofs.Ytdbilofhcadmoab.mm

/- DropTouches' walk: a step of a Drop changes one slot at most, its own chain and its lock, and what is free; keys stay. -/
namespace Go.Proofs.Ytdbilofhcadmoab.mm
open Go.ChangeShapes Go.WideShapes Go.ChangeAt Go.RowKit Go.Joins Go.Deep Go.Sort
set_option maxRecDepth 100000
set_option linter.unusedVariables false

set_option maxHeartbeats 12800000 in
theorem dropTouches_any (M : Mm) (f : Fr) (t : Int) (v : Value) (aK : Option Addr) (cK : Nat) (w : World) (A0 : Ans 0 w v M) (r : KRow w aK cK f.keys) (hlow : ∀ ad, aK = some ad → ad.block < w.heap.size) :
    Calls Try.prog 14 #[v, .agg #[.int .i64 f.c.kind, .int .i64 f.c.a, .int .i64 f.c.b, .int .i64 f.c.time, .int .i64 f.c.bk, .int .i64 f.c.slot, .int .i64 f.pl, .int .i64 f.cur, .int .i64 f.prev, .int .i64 f.slot, .int .i64 f.n, .slice aK f.keys.length cK, .bool f.done, .int .i64 f.e], .int .i64 t] w fun e w' => e = .returned (.bool true) ∧ Below w.heap.size w w' := by
  have hkl : f.keys.length ≤ 9223372036854775807 := by have := r.max; omega
  have HFt : Hid (∀ W : World, Below w.heap.size w W → Calls Try.prog 34 #[v, .agg #[.int .i64 (dropFr f).c.kind, .int .i64 (dropFr f).c.a, .int .i64 (dropFr f).c.b, .int .i64 (dropFr f).c.time, .int .i64 (dropFr f).c.bk, .int .i64 (dropFr f).c.slot, .int .i64 (dropFr f).pl, .int .i64 (dropFr f).cur, .int .i64 (dropFr f).prev, .int .i64 (dropFr f).slot, .int .i64 (dropFr f).n, .slice aK (dropFr f).keys.length cK, .bool (dropFr f).done, .int .i64 (dropFr f).e]] W fun e w' => e = .returned (.bool (fitB M (dropFr f))) ∧ Below W.heap.size W w') := fun W hb => fits_any M (dropFr f) v aK cK W (A0.below hb) hkl
  have HA : Hid (Ans 0 w v M) := A0
  have HR : Hid (KRow w aK cK f.keys) := r
  have HLow : Hid (∀ ad, aK = some ad → ad.block < w.heap.size) := hlow
  obtain ⟨aS, aH, aF, aL, cS, cH, cF, cL, rfl⟩ := A0.form
  obtain ⟨om, hom⟩ : ∃ o : Obj, o = .cells #[.slice aS M.slots.length cS, .slice aH M.heads.length cH, .slice aF M.free.length cF, .slice aL M.locks.length cL, .int .i64 M.now] 25 := ⟨_, rfl⟩
  obtain ⟨of, hof⟩ : ∃ o : Obj, o = .cells #[.int .i64 3, .int .i64 f.c.a, .int .i64 f.c.b, .int .i64 f.c.time, .int .i64 f.c.bk, .int .i64 f.c.slot, .int .i64 f.pl, .int .i64 f.cur, .int .i64 f.prev, .int .i64 f.slot, .int .i64 f.n, .slice aK f.keys.length cK, .bool f.done, .int .i64 f.e] 51 := ⟨_, rfl⟩
  have HE0 : Hid (Env w ((w.alloc om).alloc of) [((w.alloc om).heap.size, of), (w.heap.size, om)] []) := ((⟨Below.refl _ _, (fun p hp => by cases hp), (fun p hp => by cases hp)⟩ : Env w w [] []).alloc om).alloc of
  rw [show (w.alloc om).heap.size = w.heap.size + 1 by simp] at HE0
  have HBm : Hid (∀ W : World, W.heap[w.heap.size]? = some om → W.heap[w.heap.size]? = some (.cells #[.slice aS M.slots.length cS, .slice aH M.heads.length cH, .slice aF M.free.length cF, .slice aL M.locks.length cL, .int .i64 M.now] 25 (0, 0))) := fun W E => hom ▸ E
  have HBf : Hid (∀ W : World, W.heap[w.heap.size + 1]? = some of → W.heap[w.heap.size + 1]? = some (.cells #[.int .i64 3, .int .i64 f.c.a, .int .i64 f.c.b, .int .i64 f.c.time, .int .i64 f.c.bk, .int .i64 f.c.slot, .int .i64 f.pl, .int .i64 f.cur, .int .i64 f.prev, .int .i64 f.slot, .int .i64 f.n, .slice aK f.keys.length cK, .bool f.done, .int .i64 f.e] 51 (0, 0))) := fun W E => hof ▸ E
  have HMx : Hid (M.slots.length * 48 ≤ 140737488351232 ∧ M.heads.length * 8 ≤ 140737488351232 ∧ M.free.length * 8 ≤ 140737488351232 ∧ M.locks.length * 8 ≤ 140737488351232) := ⟨A0.at_.s.max, A0.at_.h.max, A0.at_.f.max, A0.at_.l.max⟩
  clear A0 r hkl hlow
  go_enter Try.func14, Try.ntmps14
  go_wp2_with fail
  rw [← hom, ← hof]
  generalize (w.alloc om).alloc of = W0 at *
  clear hom hof
  refine (dropped_any W0).mono ?_
  rintro e w1 ⟨rfl, hb1⟩
  have HE1 : Hid (Env w w1 [(w.heap.size + 1, of), (w.heap.size, om)] []) := HE0.out.below hb1
  clear HE0 hb1
  obtain ⟨q0, q1, q2, q3, q4, -, -, -, -, -, qs⟩ := boxf (HBm.out _ (HE1.out.box _ (.tail _ (.head _))))
  obtain ⟨f0, f1, f2, f3, f4, f5, f6, f7, f8, f9, f10, f11, f12, f13, -, fs⟩ := framef (HBf.out _ (HE1.out.box _ (.head _)))
  go_wp2_with fail
  clear q0 q1 q2 q3 q4 qs f0 f1 f2 f3 f4 f5 f6 f7 f8 f9 f10 f11 f12 f13 fs
  refine (HFt.out w1 HE1.out.bl).mono ?_
  rintro e w2 ⟨rfl, hb2⟩
  have HE2 : Hid (Env w w2 [(w.heap.size + 1, of), (w.heap.size, om)] []) := HE1.out.below hb2
  clear HE1 hb2 HFt
  cases hfit : fitB M (dropFr f)
  · obtain ⟨q0, q1, q2, q3, q4, -, -, -, -, -, qs⟩ := boxf (HBm.out _ (HE2.out.box _ (.tail _ (.head _))))
    obtain ⟨f0, f1, f2, f3, f4, f5, f6, f7, f8, f9, f10, f11, f12, f13, -, fs⟩ := framef (HBf.out _ (HE2.out.box _ (.head _)))
    go_wp2_with fail
    refine (dropped_any w2).mono ?_
    rintro e w3 ⟨rfl, hb3⟩
    have HE3 : Hid _ := HE2.out.below hb3
    go_wp2
    go_ret
    exact ⟨rfl, HE3.out.bl⟩
  obtain ⟨hOk, hFit⟩ := fitB_iff.1 hfit
  obtain ⟨N, hN⟩ : ∃ N, N = drM t M (dropFr f) := ⟨_, rfl⟩
  obtain ⟨g, hg⟩ : ∃ g, g = drF M (dropFr f) := ⟨_, rfl⟩
  obtain ⟨b0, b1⟩ := bkOf_in hOk hFit.call
  obtain ⟨b, hb⟩ : ∃ b : Nat, bkOf M.heads.length (dropFr f).c = b := ⟨_, (Int.toNat_of_nonneg b0).symm⟩
  have hgc : g.c = ⟨3, f.c.a, f.c.b, f.c.time, f.c.bk, f.c.slot⟩ := hg ▸ drF_c M (dropFr f)
  have hnear : Near M N b := by
    have := drM_near t M (dropFr f)
    unfold bkN at this
    rw [hb] at this
    rw [hN]
    exact this
  have hkeep : Keep M N := hN ▸ drM_keep t M (dropFr f)
  have HFr : Hid (g.done = false → frE M.slots.length M.heads.length g = 0) := fun hd => by
    have h1 := hnear.ns
    have h2 := hnear.nh
    rw [← h1, ← h2]
    subst hN hg
    exact fit_iff.2 (drF_fit t hOk hFit hd)
  have HNl : Hid (M.locks.length = M.heads.length) := hOk.nl
  have hfree := free_few hOk
  have HBk : Hid (∀ W : World, Calls Try.prog 31 #[.agg #[.slice aS M.slots.length cS, .slice aH M.heads.length cH, .slice aF M.free.length cF, .slice aL M.locks.length cL, .int .i64 M.now], .agg #[.int .i64 3, .int .i64 f.c.a, .int .i64 f.c.b, .int .i64 f.c.time, .int .i64 f.c.bk, .int .i64 f.c.slot]] W fun e w' => e = .returned (.int .i64 (b : Int)) ∧ Below W.heap.size W w') := fun W => hb ▸ frBucket_any aS aH aF aL _ _ _ _ cS cH cF cL M.now (dropFr f).c W (by have := HMx.out.2.1; omega)
  have HSt : Hid (∀ (W : World) (B lo : Nat) (xS xH xF xL : Option Addr) (kS kH kF kL : Nat), Mine W B lo xS xH xF xL kS kH kF kL M → KRow W aK cK f.keys → (∀ ad, aK = some ad → ¬ Foot B xS xH xF xL ad.block) →
      Calls Try.prog 62 #[.pointer (some ⟨B, 0, none⟩), .agg #[.int .i64 3, .int .i64 f.c.a, .int .i64 f.c.b, .int .i64 f.c.time, .int .i64 f.c.bk, .int .i64 f.c.slot, .int .i64 f.pl, .int .i64 f.cur, .int .i64 f.prev, .int .i64 f.slot, .int .i64 f.n, .slice aK f.keys.length cK, .bool f.done, .int .i64 f.e], .int .i64 t] W fun e w' => (∃ a c, e = .returned (.agg #[.int .i64 g.c.kind, .int .i64 g.c.a, .int .i64 g.c.b, .int .i64 g.c.time, .int .i64 g.c.bk, .int .i64 g.c.slot, .int .i64 g.pl, .int .i64 g.cur, .int .i64 g.prev, .int .i64 g.slot, .int .i64 g.n, .slice a g.keys.length c, .bool g.done, .int .i64 g.e]) ∧ g.keys.length * 16 ≤ 140737488351232) ∧ (∃ yS yH yF yL jS jH jF jL, Mine w' B lo yS yH yF yL jS jH jF jL N) ∧ Fine W w' (Foot B xS xH xF xL)) := fun W B lo xS xH xF xL kS kH kF kL m r hz => by
    subst hN hg
    refine (dr_mine t M (dropFr f) B lo xS xH xF xL kS kH kF kL aK cK W m hOk hFit rfl r hz).mono ?_
    rintro e w' ⟨⟨a, c, rfl, kr, -, -⟩, ⟨yS, yH, yF, yL, jS, jH, jF, jL, m', -⟩, hf⟩
    exact ⟨⟨a, c, rfl, kr.max⟩, ⟨_, _, _, _, _, _, _, _, m'⟩, hf⟩
  clear hfit hOk hFit hN hg b0 b1 hb
  obtain ⟨gc, gpl, gcur, gprev, gslot, gn, gkeys, gdone, ge⟩ := g
  obtain ⟨nS, nH, nF, nL, nN⟩ := N
  have hgc' : gc = _ := hgc
  subst hgc'
  clear hgc
  have hnow' : nN = _ := hnear.now
  subst hnow'
  have HNr : Hid (Near M ⟨nS, nH, nF, nL, M.now⟩ b) := hnear
  have HKp : Hid (Keep M ⟨nS, nH, nF, nL, M.now⟩) := hkeep
  clear hkeep
  have HLn : Hid (nS.length = M.slots.length) := hnear.ns
  have HLh : Hid (nH.length = M.heads.length) := hnear.nh
  have HLl : Hid (nL.length = M.locks.length) := hnear.nl
  dsimp only at HSt HFr
  have HFe : Hid (M.free.length ≤ 12) := hfree
  have HFn : Hid (nF.length ≤ M.free.length + 1 ∧ M.free.length ≤ nF.length + 1) := hnear.free
  have HFk : Hid (M.free.length ≤ nF.length) := HKp.out.free
  clear hnear hfree
  obtain ⟨q0, q1, q2, q3, q4, -, -, -, -, -, qs⟩ := boxf (HBm.out _ (HE2.out.box _ (.tail _ (.head _))))
  obtain ⟨f0, f1, f2, f3, f4, f5, f6, f7, f8, f9, f10, f11, f12, f13, -, fs⟩ := framef (HBf.out _ (HE2.out.box _ (.head _)))
  go_wp2_with fail
  clear q0 q1 q2 q3 q4 qs f0 f1 f2 f3 f4 f5 f6 f7 f8 f9 f10 f11 f12 f13 fs
  refine (ownMem_any M aS aH aF aL cS cH cF cL w2 (HA.out.at_.below HE2.out.bl)).mono ?_
  rintro e w3 ⟨xS, xH, xF, xL, kS, kH, kF, kL, rfl, R3, hb3⟩
  have h2 : w.heap.size + 1 < w2.heap.size := HE2.out.lt (.head _)
  have h3 := hb3.size
  obtain ⟨ox, hox⟩ : ∃ o : Obj, o = .cells #[.slice xS M.slots.length kS, .slice xH M.heads.length kH, .slice xF M.free.length kF, .slice xL M.locks.length kL, .int .i64 M.now] 25 := ⟨_, rfl⟩
  have HM3 : Hid (Mine (w3.alloc ox) w3.heap.size w2.heap.size xS xH xF xL kS kH kF kL M) := by
    obtain ⟨x1, x2, x3, x4⟩ := HMx.out
    have := HFe.out
    rw [hox]
    exact Mine.made R3 (by omega) (by omega) (by omega) (by omega)
  have HE3 : Hid (Env w (w3.alloc ox) [(w.heap.size + 1, of), (w.heap.size, om)] []) := (HE2.out.below hb3).below (one_below _ _)
  have HF3 : Hid (∀ k, Foot w3.heap.size xS xH xF xL k → w.heap.size + 2 ≤ k) := HM3.out.foot (by omega) (by omega)
  have HG3 : Hid (w3.heap.size < (w3.alloc ox).heap.size) := lt_of_block HM3.out.box
  clear R3 hb3 HE2 h2 h3
  obtain ⟨f0, f1, f2, f3, f4, f5, f6, f7, f8, f9, f10, f11, f12, f13, -, fs⟩ := framef (HBf.out _ (HE3.out.box _ (.head _)))
  rw [hox] at f0 f1 f2 f3 f4 f5 f6 f7 f8 f9 f10 f11 f12 f13 fs
  go_wp2_with fail
  clear f0 f1 f2 f3 f4 f5 f6 f7 f8 f9 f10 f11 f12 f13 fs
  rw [← hox]
  generalize w3.alloc ox = W3 at *
  generalize w3.heap.size = B at *
  generalize w2.heap.size = lo at *
  clear hox
  refine (HSt.out W3 B lo xS xH xF xL kS kH kF kL HM3.out (HR.out.below HE3.out.bl) (fun ad h hF => by have := HLow.out ad h; have := HF3.out _ hF; omega)).mono ?_
  rintro e w4 ⟨⟨ga, gk, rfl, hgm⟩, ⟨yS, yH, yF, yL, jS, jH, jF, jL, m4⟩, hf4⟩
  obtain ⟨og, hog⟩ : ∃ o : Obj, o = .cells #[.int .i64 3, .int .i64 f.c.a, .int .i64 f.c.b, .int .i64 f.c.time, .int .i64 f.c.bk, .int .i64 f.c.slot, .int .i64 gpl, .int .i64 gcur, .int .i64 gprev, .int .i64 gslot, .int .i64 gn, .slice ga gkeys.length gk, .bool gdone, .int .i64 ge] 51 := ⟨_, rfl⟩
  have HE4 : Hid (Env w (w4.alloc og) [(w4.heap.size, og), (w.heap.size + 1, of), (w.heap.size, om)] []) := (HE3.out.fine hf4 (fun k h => by have := HF3.out k h; omega) (fun p hp => by
    rcases List.mem_cons.1 hp with rfl | hp
    · intro h; have := HF3.out _ h; dsimp only at this; omega
    rcases List.mem_cons.1 hp with rfl | hp
    · intro h; have := HF3.out _ h; dsimp only at this; omega
    cases hp)).alloc og
  have HM4 : Hid (Mine (w4.alloc og) B lo yS yH yF yL jS jH jF jL ⟨nS, nH, nF, nL, M.now⟩) := m4.below (one_below _ _)
  have HBg : Hid (∀ (W : World) (G : Nat), W.heap[G]? = some og → W.heap[G]? = some (.cells #[.int .i64 3, .int .i64 f.c.a, .int .i64 f.c.b, .int .i64 f.c.time, .int .i64 f.c.bk, .int .i64 f.c.slot, .int .i64 gpl, .int .i64 gcur, .int .i64 gprev, .int .i64 gslot, .int .i64 gn, .slice ga gkeys.length gk, .bool gdone, .int .i64 ge] 51 (0, 0))) := fun W G E => hog ▸ E
  have HBx : Hid (∀ W : World, Mine W B lo yS yH yF yL jS jH jF jL ⟨nS, nH, nF, nL, M.now⟩ → W.heap[B]? = some (.cells #[.slice yS M.slots.length jS, .slice yH M.heads.length jH, .slice yF nF.length jF, .slice yL M.locks.length jL, .int .i64 M.now] 25 (0, 0))) := fun W m => by have h := m.box; dsimp only at h; rwa [HLn.out, HLh.out, HLl.out] at h
  have HGm : Hid (gkeys.length * 16 ≤ 140737488351232) := hgm
  clear HM3 HE3 HF3 HG3 hf4 m4 hgm HSt HR HLow
  obtain ⟨q0, q1, q2, q3, q4, -, -, -, -, -, qs⟩ := boxf (HBm.out _ (HE4.out.box _ (.tail _ (.tail _ (.head _)))))
  obtain ⟨f0, f1, f2, f3, f4, f5, f6, f7, f8, f9, f10, f11, f12, f13, -, fs⟩ := framef (HBf.out _ (HE4.out.box _ (.tail _ (.head _))))
  obtain ⟨g0, g1, g2, g3, g4, g5, g6, g7, g8, g9, g10, g11, g12, g13, -, gs⟩ := framef (HBg.out _ _ (HE4.out.box _ (.head _)))
  obtain ⟨p0, p1, p2, p3, p4, -, -, -, -, -, ps⟩ := boxf (HBx.out _ HM4.out)
  rw [hog] at q0 q1 q2 q3 q4 qs f0 f1 f2 f3 f4 f5 f6 f7 f8 f9 f10 f11 f12 f13 fs g0 g1 g2 g3 g4 g5 g6 g7 g8 g9 g10 g11 g12 g13 gs p0 p1 p2 p3 p4 ps
  go_wp2_with fail
  clear q0 q1 q2 q3 q4 qs f0 f1 f2 f3 f4 f5 f6 f7 f8 f9 f10 f11 f12 f13 fs g0 g1 g2 g3 g4 g5 g6 g7 g8 g9 g10 g11 g12 g13 gs p0 p1 p2 p3 p4 ps
  rw [← hog]
  generalize w4.alloc og = W4 at *
  generalize w4.heap.size = G at *
  clear hog
  have HAt : Hid (∀ W : World, Below w.heap.size w W → At W aS aH aF aL cS cH cF cL M) := fun W hb => HA.out.at_.below hb
  refine (HBk.out W4).mono ?_
  rintro e w5 ⟨rfl, hb5⟩
  have HE5 : Hid (Env w w5 [(G, og), (w.heap.size + 1, of), (w.heap.size, om)] []) := HE4.out.below hb5
  have HM5 : Hid (Mine w5 B lo yS yH yF yL jS jH jF jL ⟨nS, nH, nF, nL, M.now⟩) := HM4.out.below hb5
  clear hb5 HE4 HM4
  obtain ⟨q0, q1, q2, q3, q4, -, -, -, -, -, qs⟩ := boxf (HBm.out _ (HE5.out.box _ (.tail _ (.tail _ (.head _)))))
  obtain ⟨f0, f1, f2, f3, f4, f5, f6, f7, f8, f9, f10, f11, f12, f13, -, fs⟩ := framef (HBf.out _ (HE5.out.box _ (.tail _ (.head _))))
  obtain ⟨g0, g1, g2, g3, g4, g5, g6, g7, g8, g9, g10, g11, g12, g13, -, gs⟩ := framef (HBg.out _ _ (HE5.out.box _ (.head _)))
  obtain ⟨p0, p1, p2, p3, p4, -, -, -, -, -, ps⟩ := boxf (HBx.out _ HM5.out)
  have hh1 : M.heads.length ≤ 9223372036854775807 := by have := HMx.out.2.1; omega
  have hm1 : M.slots.length ≤ 9223372036854775807 := by have := HMx.out.1; omega
  go_wp2_with fail
  clear q0 q1 q2 q3 q4 qs f0 f1 f2 f3 f4 f5 f6 f7 f8 f9 f10 f11 f12 f13 fs g0 g1 g2 g3 g4 g5 g6 g7 g8 g9 g10 g11 g12 g13 gs p0 p1 p2 p3 p4 ps
  go_loopw [36] (fun i wr => ∃ k : Nat, k ≤ M.heads.length ∧ i = .int .i64 k ∧ Hid (Env w wr [(G, og), (w.heap.size + 1, of), (w.heap.size, om)] []) ∧ Hid (Mine wr B lo yS yH yF yL jS jH jF jL ⟨nS, nH, nF, nL, M.now⟩)) (fun i _ => M.heads.length - (intOf i).toNat)
  case atStart => exact ⟨0, Nat.zero_le _, rfl, HE5, HM5⟩
  case round =>
    clear HE5 HM5
    obtain ⟨k, hk, rfl, HE8, HM8⟩ := hrel
    by_cases hlt : k < M.heads.length
    · by_cases hkb0 : k = b
      · obtain ⟨q0, q1, q2, q3, q4, -, -, -, -, -, qs⟩ := boxf (HBm.out _ (HE8.out.box _ (.tail _ (.tail _ (.head _)))))
        obtain ⟨f0, f1, f2, f3, f4, f5, f6, f7, f8, f9, f10, f11, f12, f13, -, fs⟩ := framef (HBf.out _ (HE8.out.box _ (.tail _ (.head _))))
        obtain ⟨g0, g1, g2, g3, g4, g5, g6, g7, g8, g9, g10, g11, g12, g13, -, gs⟩ := framef (HBg.out _ _ (HE8.out.box _ (.head _)))
        obtain ⟨p0, p1, p2, p3, p4, -, -, -, -, -, ps⟩ := boxf (HBx.out _ HM8.out)
        have hkb : ((k : Int) == (b : Int)) = true := by simp [hkb0]
        go_wp2_with fail
        go_quiet (fail)
        go_wp2
        refine ⟨⟨k + 1, by omega, by go_num, HE8.out.below (drewN_below _ _), HM8.out.below (drewN_below _ _)⟩, ?_⟩
        simp [intOf]
        omega
      · obtain ⟨q0, q1, q2, q3, q4, -, -, -, -, -, qs⟩ := boxf (HBm.out _ (HE8.out.box _ (.tail _ (.tail _ (.head _)))))
        obtain ⟨f0, f1, f2, f3, f4, f5, f6, f7, f8, f9, f10, f11, f12, f13, -, fs⟩ := framef (HBf.out _ (HE8.out.box _ (.tail _ (.head _))))
        obtain ⟨g0, g1, g2, g3, g4, g5, g6, g7, g8, g9, g10, g11, g12, g13, -, gs⟩ := framef (HBg.out _ _ (HE8.out.box _ (.head _)))
        obtain ⟨p0, p1, p2, p3, p4, -, -, -, -, -, ps⟩ := boxf (HBx.out _ HM8.out)
        have hkb : ((k : Int) == (b : Int)) = false := by rw [beq_eq_false_iff_ne]; omega
        have hkn : ((k : Int) != (b : Int)) = true := by rw [bne, hkb]; rfl
        have hlh : k < nH.length := by have := HLh.out; omega
        have hll : k < nL.length := by have := HLl.out; have := HNl.out; omega
        have hll2 : k < M.locks.length := by have := HNl.out; omega
        rcases HM8.out.at.h.at_ with h0 | ⟨b1, o1, rfl, hc1⟩
        · have h0' : nH.length = 0 := h0
          omega
        rcases (HAt.out _ HE8.out.bl).h.at_ with h0 | ⟨b2, o2, rfl, hc2⟩
        · omega
        rcases HM8.out.at.l.at_ with h0 | ⟨b3, o3, rfl, hc3⟩
        · have h0' : nL.length = 0 := h0
          omega
        rcases (HAt.out _ HE8.out.bl).l.at_ with h0 | ⟨b4, o4, rfl, hc4⟩
        · omega
        have x1 := hc1 k hlh
        have x2 := hc2 k hlt
        have x3 := hc3 k hll
        have x4 := hc4 k hll2
        clear hc1 hc2 hc3 hc4
        have e1 : nH[k] = M.heads[k] := by
          have := HNr.out.heads k hkb0
          dsimp only at this
          rw [List.getElem?_eq_getElem hlh, List.getElem?_eq_getElem hlt] at this
          injection this
        have e2 : nL[k] = M.locks[k] := by
          have := HNr.out.locks k hkb0
          dsimp only at this
          rw [List.getElem?_eq_getElem hll, List.getElem?_eq_getElem hll2] at this
          injection this
        dsimp only at x1 x3
        rw [e1] at x1
        rw [e2] at x3
        generalize M.heads[k] = xh at x1 x2
        generalize M.locks[k] = xl at x3 x4
        have bl1 : b1 < wr.heap.size := cell_lt x1
        have bl2 : b2 < wr.heap.size := cell_lt x2
        have bl3 : b3 < wr.heap.size := cell_lt x3
        have bl4 : b4 < wr.heap.size := cell_lt x4
        clear e1 e2 hlh hll
        go_wp2_with fail
        go_quiet (fail)
        go_wp2
        refine ⟨⟨k + 1, by omega, by go_num, HE8.out.below (drewN_below _ _), HM8.out.below (drewN_below _ _)⟩, ?_⟩
        simp [intOf]
        omega
    · obtain rfl : k = M.heads.length := by omega
      obtain ⟨q0, q1, q2, q3, q4, -, -, -, -, -, qs⟩ := boxf (HBm.out _ (HE8.out.box _ (.tail _ (.tail _ (.head _)))))
      obtain ⟨f0, f1, f2, f3, f4, f5, f6, f7, f8, f9, f10, f11, f12, f13, -, fs⟩ := framef (HBf.out _ (HE8.out.box _ (.tail _ (.head _))))
      obtain ⟨g0, g1, g2, g3, g4, g5, g6, g7, g8, g9, g10, g11, g12, g13, -, gs⟩ := framef (HBg.out _ _ (HE8.out.box _ (.head _)))
      obtain ⟨p0, p1, p2, p3, p4, -, -, -, -, -, ps⟩ := boxf (HBx.out _ HM8.out)
      go_wp2_with fail
      clear q0 q1 q2 q3 q4 qs f0 f1 f2 f3 f4 f5 f6 f7 f8 f9 f10 f11 f12 f13 fs g0 g1 g2 g3 g4 g5 g6 g7 g8 g9 g10 g11 g12 g13 gs p0 p1 p2 p3 p4 ps
      go_loopw [72] (fun i wr => ∃ k : Nat, k ≤ M.slots.length ∧ i = .int .i64 k ∧ Hid (Env w wr [(G, og), (w.heap.size + 1, of), (w.heap.size, om)] []) ∧ Hid (Mine wr B lo yS yH yF yL jS jH jF jL ⟨nS, nH, nF, nL, M.now⟩)) (fun i _ => M.slots.length - (intOf i).toNat)
      case atStart => exact ⟨0, Nat.zero_le _, rfl, HE8, HM8⟩
      case round =>
        clear HE8 HM8 hk hlt
        obtain ⟨k2, hk, rfl, HE7, HM7⟩ := hrel
        by_cases hlt : k2 < M.slots.length
        · have hlt1 : k2 < nS.length := by have := HLn.out; omega
          obtain ⟨q0, q1, q2, q3, q4, -, -, -, -, -, qs⟩ := boxf (HBm.out _ (HE7.out.box _ (.tail _ (.tail _ (.head _)))))
          obtain ⟨f0, f1, f2, f3, f4, f5, f6, f7, f8, f9, f10, f11, f12, f13, -, fs⟩ := framef (HBf.out _ (HE7.out.box _ (.tail _ (.head _))))
          obtain ⟨g0, g1, g2, g3, g4, g5, g6, g7, g8, g9, g10, g11, g12, g13, -, gs⟩ := framef (HBg.out _ _ (HE7.out.box _ (.head _)))
          obtain ⟨p0, p1, p2, p3, p4, -, -, -, -, -, ps⟩ := boxf (HBx.out _ HM7.out)
          rcases HM7.out.at.s.at_ with h0 | ⟨b1, o1, rfl, hc1⟩
          · have h0' : nS.length = 0 := h0
            omega
          rcases (HAt.out _ HE7.out.bl).s.at_ with h0 | ⟨b2, o2, rfl, hc2⟩
          · omega
          obtain ⟨x0, x1, x2, x3, x4, x5⟩ := hc1 k2 hlt1
          obtain ⟨y0, y1, y2, y3, y4, y5⟩ := hc2 k2 hlt
          clear hc1 hc2
          have hk2 := HKp.out.slot k2
          dsimp only at hk2 x0 x1 x2 x3 x4 x5
          rw [getD_lt _ _ hlt, getD_lt _ _ hlt1] at hk2
          generalize nS[k2] = x at x0 x1 x2 x3 x4 x5 hk2
          generalize M.slots[k2] = y at y0 y1 y2 y3 y4 y5 hk2
          obtain ⟨xr, xa, xb, xu, xi, xn⟩ := x
          obtain ⟨yr, ya, yb, yu, yi, yn⟩ := y
          dsimp only at x0 x1 x2 x3 x4 x5 y0 y1 y2 y3 y4 y5 hk2
          obtain ⟨rfl, rfl, rfl, rfl⟩ := hk2
          have bl1 : b1 < wr.heap.size := cell_lt x0
          have bl2 : b2 < wr.heap.size := cell_lt y0
          have se : ∀ W : World, (Op.equalIn 10000 37 (.agg #[.int .i64 xa, .int .i64 xb]) (.agg #[.int .i64 xa, .int .i64 xb])).run Try.prog W = .ok true W := fun W => by rw [kequal]; simp
          go_wp2_with fail
          go_quiet (fail)
          go_wp2
          refine ⟨⟨k2 + 1, by omega, by go_num, (HE7.out.below (one_below _ _)).below (drewN_below _ _), (HM7.out.below (one_below _ _)).below (drewN_below _ _)⟩, ?_⟩
          simp [intOf]
          omega
        · obtain rfl : k2 = M.slots.length := by omega
          obtain ⟨q0, q1, q2, q3, q4, -, -, -, -, -, qs⟩ := boxf (HBm.out _ (HE7.out.box _ (.tail _ (.tail _ (.head _)))))
          obtain ⟨f0, f1, f2, f3, f4, f5, f6, f7, f8, f9, f10, f11, f12, f13, -, fs⟩ := framef (HBf.out _ (HE7.out.box _ (.tail _ (.head _))))
          obtain ⟨g0, g1, g2, g3, g4, g5, g6, g7, g8, g9, g10, g11, g12, g13, -, gs⟩ := framef (HBg.out _ _ (HE7.out.box _ (.head _)))
          obtain ⟨p0, p1, p2, p3, p4, -, -, -, -, -, ps⟩ := boxf (HBx.out _ HM7.out)
          go_wp2_with fail
          clear q0 q1 q2 q3 q4 qs f0 f1 f2 f3 f4 f5 f6 f7 f8 f9 f10 f11 f12 f13 fs g0 g1 g2 g3 g4 g5 g6 g7 g8 g9 g10 g11 g12 g13 gs p0 p1 p2 p3 p4 ps
          have c1 := changed_any M ⟨nS, nH, nF, nL, M.now⟩ aS aH aF aL yS yH yF yL cS cH cF cL jS jH jF jL wr (HAt.out _ HE7.out.bl).s HM7.out.at.s HLn.out
          dsimp only at c1
          rw [HLn.out, HLh.out, HLl.out] at c1
          have hdif : dif M.slots nS M.slots.length ≤ 1 := HNr.out.dif _
          generalize dif M.slots nS M.slots.length = dd at c1 hdif
          refine c1.mono ?_
          clear c1
          rintro e w9 ⟨rfl, hb9⟩
          have HE9 : Hid (Env w w9 [(G, og), (w.heap.size + 1, of), (w.heap.size, om)] []) := HE7.out.below hb9
          have HM9 : Hid (Mine w9 B lo yS yH yF yL jS jH jF jL ⟨nS, nH, nF, nL, M.now⟩) := HM7.out.below hb9
          clear hb9 HE7 HM7
          have hd1 : (dd : Int) ≤ 1 := by omega
          have hm3 : M.free.length ≤ 1000 := by have := HFe.out; omega
          have hm4 : nF.length ≤ 1000 := by have := HFe.out; have := HFn.out; omega
          have hl2 : (M.free.length : Int) ≤ (nF.length : Int) := by have := HFk.out; omega
          have se : ∀ W : World, (Op.equalIn 10000 48 (.agg #[.int .i64 3, .int .i64 f.c.a, .int .i64 f.c.b, .int .i64 f.c.time, .int .i64 f.c.bk, .int .i64 f.c.slot]) (.agg #[.int .i64 3, .int .i64 f.c.a, .int .i64 f.c.b, .int .i64 f.c.time, .int .i64 f.c.bk, .int .i64 f.c.slot])).run Try.prog W = .ok true W := fun W => cequal ⟨3, f.c.a, f.c.b, f.c.time, f.c.bk, f.c.slot⟩ W
          obtain ⟨q0, q1, q2, q3, q4, -, -, -, -, -, qs⟩ := boxf (HBm.out _ (HE9.out.box _ (.tail _ (.tail _ (.head _)))))
          obtain ⟨f0, f1, f2, f3, f4, f5, f6, f7, f8, f9, f10, f11, f12, f13, -, fs⟩ := framef (HBf.out _ (HE9.out.box _ (.tail _ (.head _))))
          obtain ⟨g0, g1, g2, g3, g4, g5, g6, g7, g8, g9, g10, g11, g12, g13, -, gs⟩ := framef (HBg.out _ _ (HE9.out.box _ (.head _)))
          obtain ⟨p0, p1, p2, p3, p4, -, -, -, -, -, ps⟩ := boxf (HBx.out _ HM9.out)
          cases gdone
          · go_wp2_with fail
            clear q0 q1 q2 q3 q4 qs f0 f1 f2 f3 f4 f5 f6 f7 f8 f9 f10 f11 f12 f13 fs g0 g1 g2 g3 g4 g5 g6 g7 g8 g9 g10 g11 g12 g13 gs p0 p1 p2 p3 p4 ps
            have c1 := frCheck_any yS yH yF yL M.slots.length M.heads.length nF.length M.locks.length jS jH jF jL M.now ⟨⟨3, f.c.a, f.c.b, f.c.time, f.c.bk, f.c.slot⟩, gpl, gcur, gprev, gslot, gn, gkeys, false, ge⟩ ga gk w9 (by have := HMx.out.1; omega) (by have := HMx.out.2.1; omega) (by have := HGm.out; dsimp only; omega)
            have hfr := HFr.out (by first | exact trivial | rfl)
            rw [hfr] at c1
            refine c1.mono ?_
            rintro e w10 ⟨rfl, hb10⟩
            clear c1 hfr
            have HE10 : Hid (Env w w10 [(G, og), (w.heap.size + 1, of), (w.heap.size, om)] []) := HE9.out.below hb10
            have HM10 : Hid (Mine w10 B lo yS yH yF yL jS jH jF jL ⟨nS, nH, nF, nL, M.now⟩) := HM9.out.below hb10
            clear hb10 HE9 HM9
            obtain ⟨q0, q1, q2, q3, q4, -, -, -, -, -, qs⟩ := boxf (HBm.out _ (HE10.out.box _ (.tail _ (.tail _ (.head _)))))
            obtain ⟨f0, f1, f2, f3, f4, f5, f6, f7, f8, f9, f10, f11, f12, f13, -, fs⟩ := framef (HBf.out _ (HE10.out.box _ (.tail _ (.head _))))
            obtain ⟨g0, g1, g2, g3, g4, g5, g6, g7, g8, g9, g10, g11, g12, g13, -, gs⟩ := framef (HBg.out _ _ (HE10.out.box _ (.head _)))
            obtain ⟨p0, p1, p2, p3, p4, -, -, -, -, -, ps⟩ := boxf (HBx.out _ HM10.out)
            go_wp2
            go_ret
            exact ⟨rfl, HE10.out.bl⟩
          · go_wp2
            go_ret
            exact ⟨rfl, HE9.out.bl⟩

end Go.Proofs.Ytdbilofhcadmoab.mm

namespace Go.Proofs.Ytdbilofhcadmoab.dropTouches
open Go.ChangeShapes Go.WideShapes Go.ChangeAt Go.RowKit Go.Joins
open Go.Proofs.Ytdbilofhcadmoab.mm
set_option linter.unusedVariables false

theorem laidOut : laidOutB Try.prog = true := by kernel_rfl

set_option maxRecDepth 100000 in
theorem lifted (os : Os) (started : os.Started) (H : Type) (enc : TypeId × Value → H) :
    ReturnsInHanded {} Try.checked os 14 .any (Rows.dropTouchesSpec.pre6 enc Try.prog Try.f14 Rows.dropTouchesRow.domain false) (Rows.dropTouchesSpec.post enc Try.prog Try.f14 false true false false) := by
  refine returnsInHanded_of_change_sized (C := Try.checked) own started (by kernel_rfl) Try.func14
    (ChangeSpec.witness6 (enc := enc) (C := Try.checked) false ⟨#[], #[.agg #[.slice none 0 0, .slice none 0 0, .slice none 0 0, .slice none 0 0, .int .i64 0], .agg #[.int .i64 0, .int .i64 0, .int .i64 0, .int .i64 0, .int .i64 0, .int .i64 0, .int .i64 0, .int .i64 0, .int .i64 0, .int .i64 0, .int .i64 0, .slice none 0 0, .bool false, .int .i64 0], .int .i64 0], []⟩ 8 (by kernel_rfl) (by kernel_rfl) (by kernel_rfl) (by kernel_rfl)) ?_
  intro W base args ds gs before hval0 hW _ hsz0 _
  have hsz : (DataW.weightsEach Try.prog (Try.f14.params.toList ++ Rows.dropTouchesSpec.plain.varTypes Try.prog) (ds ++ gs)).all (· ≤ reachBytes) = true := hsz0
  have hval : ∀ (j : Nat) t v, Try.f14.params[j]? = some t → args[j]? = some v → Value.okWide Try.prog W .any base t v := hval0
  have hW' := hW
  obtain ⟨p, q, hA0, hV, rfl, _, _⟩ := hW
  have hA : DataW.TrodAll enc Try.prog W 0 (fun _ => true) true Try.f14.params.toList args.toList ds p := hA0
  rw [Try.params14] at hA hval hsz
  obtain ⟨v0, v1, v2, d0, d1, d2, p0, p1, p2, rfl, rfl, rfl, h0, h1, h2⟩ := trodAll_three hA
  obtain ⟨rfl, rfl⟩ := trodVars_none hV
  clear hA0 hval0 hsz0
  simp only [List.append_nil] at hW'
  have hlt : ∀ x ∈ p0 ++ p1 ++ p2, x.block < W.heap.size := fun x hx => by simpa using hW'.lt x hx
  obtain ⟨M0, A0⟩ := open_mem (hval 0 25 v0 rfl rfl) h0 (fun n hn => by
    have := List.all_eq_true.1 hsz n (DataW.weights_mem_each (j := 0) (t := 25) (d := d0) rfl rfl n hn)
    simpa using this)
  have h0k := h0
  have h1k := h1
  obtain ⟨f1, aK1, cK1, rfl, rK1⟩ := open_frame (hval 1 51 v1 rfl rfl) h1 (fun n hn => by
    have := List.all_eq_true.1 hsz n (DataW.weights_mem_each (j := 1) (t := 51) (d := d1) rfl rfl n hn)
    simpa using this)
  have h2k := h2
  obtain ⟨u2, rfl, hd2, hp2, wu2⟩ := open_int Try.underlying3 (hval 2 3 v2 rfl rfl) h2
  refine (dropTouches_any M0 f1 u2 v0 aK1 cK1 W A0 rK1 (frame_low (hval 1 51 _ rfl rfl))).mono fun e W' ⟨he, hnx⟩ => ?_
  subst he
  refine ⟨_, rfl, _, _, _, [], p0 ++ (p1 ++ p2), [], hW', ?_, ?_, rfl, hnx.frame _, fun h => by cases h⟩
  · exact trodAll_mk1 (shut_bool Try.underlying4 _)
  · exact trodAll_mk3 (Below.trod laidOut (by kernel_rfl) (of_decide_eq_true (by kernel_rfl)) h0k hnx (fun x hx => hlt x (by simp [hx]))) (Below.trod laidOut (by kernel_rfl) (of_decide_eq_true (by kernel_rfl)) h1k hnx (fun x hx => hlt x (by simp [hx]))) (Below.trod laidOut (by kernel_rfl) (of_decide_eq_true (by kernel_rfl)) h2k hnx (fun x hx => hlt x (by simp [hx])))

theorem row_holds : Rows.DropTouchesSaid :=
  OpenClaim.holds_of_wide 14 Try.f14 rfl rfl rfl rfl rfl rfl rfl ⟨rfl, rfl, rfl, rfl, rfl⟩ rfl rfl rfl rfl rfl (by kernel_rfl) Try.func14 (by kernel_rfl)
    (of_decide_eq_true (by kernel_rfl)) (by unfold Func.isWrapper; first | (rw [if_pos (by decide +kernel)]; kernel_rfl) | (rw [if_neg (by decide +kernel)]; exact ⟨rfl, rfl⟩))
    (fun os started H enc _ => lifted os started H enc)
#print axioms row_holds


end Go.Proofs.Ytdbilofhcadmoab.dropTouches
