/- ChainTells: the slots of any chain of any memory, whether chains are right, and what is mapped, is told as the document says. -/
import Derived.Test.YtdbilofhcadmoaaRefF
import Derived.Test.YtdbilofhcadmoaaChained
namespace Go.Proofs.Ytdbilofhcadmoaa.mm
open Go.ChangeShapes Go.WideShapes Go.ChangeAt Go.RowKit Go.Joins Go.Maps
set_option maxRecDepth 100000
set_option linter.unusedVariables false

theorem flowsOf_at {M : Mm} {L : List Fl} (hL : (allC M).map (flowAt M) = L) (aS aH aF aL : Option Addr) (cS cH cF cL : Nat) (w : World) (A : At w aS aH aF aL cS cH cF cL M) (hokc : OkC M) :
    Calls Try.prog 39 #[.agg #[.slice aS M.slots.length cS, .slice aH M.heads.length cH, .slice aF M.free.length cF, .slice aL M.locks.length cL, .int .i64 M.now]] w fun e w' => ∃ ao cap, e = .returned (.slice ao L.length cap) ∧ FRow w' ao cap L ∧ Below w.heap.size w w' := by
  subst hL
  exact flowsOf_any M aS aH aF aL cS cH cF cL w A hokc

set_option maxHeartbeats 2000000 in
theorem chtells_any (M : Mm) (v : Value) (b : Int) (w : World) (A : Ans 0 w v M) :
    Calls Try.prog 9 #[v, .int .i64 b] w fun e w' => e = .returned (.bool true) ∧ Below w.heap.size w w' := by
  obtain ⟨aS, aH, aF, aL, cS, cH, cF, cL, rfl, A, hi0⟩ := A
  have HA : Hid (Ans 0 w (.agg #[.slice aS M.slots.length cS, .slice aH M.heads.length cH, .slice aF M.free.length cF, .slice aL M.locks.length cL, .int .i64 M.now]) M) := ⟨aS, aH, aF, aL, cS, cH, cF, cL, rfl, A, hi0⟩
  have HAt : Hid (At w aS aH aF aL cS cH cF cL M) := A
  have m2 := A.h.max
  have n2 : M.heads.length ≤ 9223372036854775807 := by omega
  clear m2
  obtain ⟨o1, ho1⟩ : ∃ o : Obj, o = .cells #[.slice aS M.slots.length cS, .slice aH M.heads.length cH, .slice aF M.free.length cF, .slice aL M.locks.length cL, .int .i64 M.now] 29 := ⟨_, rfl⟩
  have HW0 : Hid (Below w.heap.size w (w.alloc o1)) := one_below w o1
  have HX0 : Hid ((w.alloc o1).heap[w.heap.size]? = some o1) := heap_alloc_new _ _
  have HA0 : Hid _ := A.below HW0.out
  clear A hi0
  go_enter Try.func9, Try.ntmps9
  go_wp2_with fail
  rw [← ho1]
  generalize w.alloc o1 = W0 at *
  subst ho1
  refine (chainSlots_any M aS aH aF aL cS cH cF cL b W0 HA0.out).mono ?_
  obtain ⟨E1, hE1⟩ : ∃ E1, E1 = slotsCE M b := ⟨_, rfl⟩
  obtain ⟨L1, hL1⟩ : ∃ L1, L1 = slotsCL M b := ⟨_, rfl⟩
  rw [← hE1, ← hL1]
  have HE1 : Hid (E1 = slotsCE M b) := hE1
  have HL1 : Hid (L1 = slotsCL M b) := hL1
  have HBd : Hid (∀ e : Int, e ≠ 0 → slotsCE M b = e → E1 = e ∧ L1 = []) := fun e he h => ⟨hE1.trans h, hL1.trans (by unfold slotsCL; rw [h, if_neg he])⟩
  clear hE1 hL1
  rintro e w1 ⟨ao1, cap1, rfl, hr1, hb1⟩
  have HW1 : Hid (Below w.heap.size w w1) := HW0.out.trans (hb1.mono HW0.out.size)
  have HX1 : Hid (w1.heap[w.heap.size]? = some (.cells #[.slice aS M.slots.length cS, .slice aH M.heads.length cH, .slice aF M.free.length cF, .slice aL M.locks.length cL, .int .i64 M.now] 29 (0, 0))) := (hb1.block w.heap.size (lt_of_block HX0.out)).trans HX0.out
  have HR1 : Hid (IRow w1 ao1 cap1 L1) := hr1
  have HA1 : Hid _ := HAt.out.below HW1.out
  clear hr1 hb1 HW0 HX0 HA0
  obtain ⟨q0, q1, q2, q3, q4, f0, f1, f2, f3, f4, qs⟩ := boxf HX1.out
  clear f0 f1 f2 f3 f4
  go_wp2_with fail
  refine (flows_any M aS aH aF aL cS cH cF cL w1 HA1.out).mono ?_
  rintro e w2 ⟨ao3, cap3, rfl, hr3, hb2⟩
  have HW2 : Hid (Below w.heap.size w w2) := HW1.out.trans (hb2.mono HW1.out.size)
  have HX2 : Hid (w2.heap[w.heap.size]? = some (.cells #[.slice aS M.slots.length cS, .slice aH M.heads.length cH, .slice aF M.free.length cF, .slice aL M.locks.length cL, .int .i64 M.now] 29 (0, 0))) := (hb2.block w.heap.size qs).trans HX1.out
  have HR2 : Hid (IRow w2 ao1 cap1 L1) := HR1.out.below hb2
  have HF2 : Hid (FRow w2 ao3 cap3 (flowsM M)) := hr3
  have HA2 : Hid _ := HAt.out.below HW2.out
  clear hr3 hb2 HW1 HX1 HA1 HR1 q0 q1 q2 q3 q4 qs
  obtain ⟨q0, q1, q2, q3, q4, f0, f1, f2, f3, f4, qs⟩ := boxf HX2.out
  clear f0 f1 f2 f3 f4
  go_wp2_with fail
  refine (rcheckC_any M aS aH aF aL cS cH cF cL w2 HA2.out).mono ?_
  rintro e w3 ⟨rfl, hb3⟩
  have HW3 : Hid (Below w.heap.size w w3) := HW2.out.trans (hb3.mono HW2.out.size)
  have HX3 : Hid (w3.heap[w.heap.size]? = some (.cells #[.slice aS M.slots.length cS, .slice aH M.heads.length cH, .slice aF M.free.length cF, .slice aL M.locks.length cL, .int .i64 M.now] 29 (0, 0))) := (hb3.block w.heap.size qs).trans HX2.out
  have HR3 : Hid (IRow w3 ao1 cap1 L1) := HR2.out.below hb3
  have HF3 : Hid (FRow w3 ao3 cap3 (flowsM M)) := HF2.out.below hb3
  clear hb3 HW2 HX2 HA2 HR2 HF2 q0 q1 q2 q3 q4 qs
  go_wp2_with fail
  refine (chained_any w3).mono ?_
  rintro e w4 ⟨rfl, hb4⟩
  have HW4 : Hid (Below w.heap.size w w4) := HW3.out.trans (hb4.mono HW3.out.size)
  have HX4 : Hid (w4.heap[w.heap.size]? = some (.cells #[.slice aS M.slots.length cS, .slice aH M.heads.length cH, .slice aF M.free.length cF, .slice aL M.locks.length cL, .int .i64 M.now] 29 (0, 0))) := (hb4.block w.heap.size (lt_of_block HX3.out)).trans HX3.out
  have HR4 : Hid (IRow w4 ao1 cap1 L1) := HR3.out.below hb4
  have HF4 : Hid (FRow w4 ao3 cap3 (flowsM M)) := HF3.out.below hb4
  have HA4 : Hid _ := HAt.out.below HW4.out
  clear hb4 HW3 HX3 HR3 HF3
  obtain ⟨q0, q1, q2, q3, q4, f0, f1, f2, f3, f4, qs⟩ := boxf HX4.out
  clear f0 f1 f2 f3 f4
  go_wp2_with fail
  refine (chainCheck_any M aS aH aF aL cS cH cF cL w4 HA4.out).mono ?_
  rintro e w5 ⟨rfl, hb5⟩
  have HW5 : Hid (Below w.heap.size w w5) := HW4.out.trans (hb5.mono HW4.out.size)
  have HX5 : Hid (w5.heap[w.heap.size]? = some (.cells #[.slice aS M.slots.length cS, .slice aH M.heads.length cH, .slice aF M.free.length cF, .slice aL M.locks.length cL, .int .i64 M.now] 29 (0, 0))) := (hb5.block w.heap.size qs).trans HX4.out
  have HR5 : Hid (IRow w5 ao1 cap1 L1) := HR4.out.below hb5
  have HF5 : Hid (FRow w5 ao3 cap3 (flowsM M)) := HF4.out.below hb5
  have HA5 : Hid _ := HAt.out.below HW5.out
  clear hb5 HW4 HX4 HR4 HF4 HA4 q0 q1 q2 q3 q4 qs
  by_cases hC : chkC M = 0
  · have hokc := (chkC_zero M).1 hC
    have hok := hokc.ok
    have n1 := hok.nh
    have HC : Hid (chk M = 0) := (chk_zero M).2 hok
    have HFl : Hid (flowsM M = (allC M).map (flowAt M)) := by unfold flowsM; rw [if_pos hC]; exact rfl
    obtain ⟨fl, hfl⟩ : ∃ fl, fl = (allC M).map (flowAt M) := ⟨_, rfl⟩
    have HFe : Hid ((allC M).map (flowAt M) = fl) := hfl.symm
    rw [hC, HFl.out, ← hfl]
    have HF6 : Hid (FRow w5 ao3 cap3 fl) := by have := HF5.out; rw [HFl.out, ← hfl] at this; exact this
    clear hC HF5 HFl hfl
    obtain ⟨q0, q1, q2, q3, q4, f0, f1, f2, f3, f4, qs⟩ := boxf HX5.out
    clear f0 f1 f2 f3 f4
    go_wp2_with fail
    refine (flowsOf_at HFe.out aS aH aF aL cS cH cF cL w5 HA5.out hokc).mono ?_
    rintro e w6 ⟨ao4, cap4, rfl, hr4, hb6⟩
    have HW6 : Hid (Below w.heap.size w w6) := HW5.out.trans (hb6.mono HW5.out.size)
    have HX6 : Hid (w6.heap[w.heap.size]? = some (.cells #[.slice aS M.slots.length cS, .slice aH M.heads.length cH, .slice aF M.free.length cF, .slice aL M.locks.length cL, .int .i64 M.now] 29 (0, 0))) := (hb6.block w.heap.size qs).trans HX5.out
    have HR6 : Hid (IRow w6 ao1 cap1 L1) := HR5.out.below hb6
    have HF7 : Hid _ := HF6.out.below hb6
    have HG7 : Hid (FRow w6 ao4 cap4 fl) := hr4
    clear hb6 HW5 HX5 HR5 HF6 HA5 q0 q1 q2 q3 q4 qs hr4
    go_wp2_with fail
    refine (equalF_any ao3 ao4 cap3 cap4 fl fl w6 HF7.out HG7.out).mono ?_
    rw [show eqF fl fl = true from (eqF_iff _ _).2 rfl]
    rintro e wz ⟨rfl, hb7⟩
    have HWz : Hid (Below w.heap.size w wz) := HW6.out.trans (hb7.mono HW6.out.size)
    have HXz : Hid (wz.heap[w.heap.size]? = some (.cells #[.slice aS M.slots.length cS, .slice aH M.heads.length cH, .slice aF M.free.length cF, .slice aL M.locks.length cL, .int .i64 M.now] 29 (0, 0))) := (hb7.block w.heap.size (lt_of_block HX6.out)).trans HX6.out
    have HRz : Hid (IRow wz ao1 cap1 L1) := HR6.out.below hb7
    clear hb7 HW6 HX6 HR6 HF7 HG7
    obtain ⟨q0, q1, q2, q3, q4, f0, f1, f2, f3, f4, qs⟩ := boxf HXz.out
    clear f0 f1 f2 f3 f4
    have HAz : Hid (Ans 0 wz (.agg #[.slice aS M.slots.length cS, .slice aH M.heads.length cH, .slice aF M.free.length cF, .slice aL M.locks.length cL, .int .i64 M.now]) M) := Ans.below HA.out HWz.out
    go_wp2_with fail
    refine (rcheck_any M _ wz 0 HAz.out).mono ?_
    rintro e wy ⟨rfl, hby⟩
    have HWy : Hid (Below w.heap.size w wy) := HWz.out.trans (hby.mono HWz.out.size)
    have HXy : Hid (wy.heap[w.heap.size]? = some (.cells #[.slice aS M.slots.length cS, .slice aH M.heads.length cH, .slice aF M.free.length cF, .slice aL M.locks.length cL, .int .i64 M.now] 29 (0, 0))) := (hby.block w.heap.size qs).trans HXz.out
    have HRy : Hid (IRow wy ao1 cap1 L1) := HRz.out.below hby
    clear hby HWz HXz HRz HAz q0 q1 q2 q3 q4 qs
    obtain ⟨q0, q1, q2, q3, q4, f0, f1, f2, f3, f4, qs⟩ := boxf HXy.out
    clear f0 f1 f2 f3 f4
    rw [HC.out]
    by_cases hb0 : b < 0
    · have HV : Hid (E1 = 5 ∧ L1 = []) := HBd.out 5 (by decide) (by unfold slotsCE; rw [if_neg (by simpa using HC.out), if_pos (by rw [Bool.eq_false_iff]; intro h; rw [inB_iff] at h; omega)])
      rw [HV.out.1, HV.out.2]
      go_wp2
      go_ret
      exact ⟨rfl, HWy.out⟩
    have hb0' : 0 ≤ b := by omega
    by_cases hb1 : (M.heads.length : Int) ≤ b
    · have HV : Hid (E1 = 5 ∧ L1 = []) := HBd.out 5 (by decide) (by unfold slotsCE; rw [if_neg (by simpa using HC.out), if_pos (by rw [Bool.eq_false_iff]; intro h; rw [inB_iff] at h; omega)])
      rw [HV.out.1, HV.out.2]
      go_wp2
      go_ret
      exact ⟨rfl, HWy.out⟩
    obtain ⟨c, rfl⟩ : ∃ c : Nat, b = c := ⟨b.toNat, by omega⟩
    have hc : c < M.heads.length := by omega
    have hc' : (c : Int) < M.heads.length := by omega
    have HAy : Hid _ := HAt.out.below HWy.out
    have HSl : Hid (slotsCE M c = slotsE M c ∧ slotsCL M c = slotsL M c) := by
      have h : slotsCE M c = slotsE M c := by unfold slotsCE; rw [if_neg (by simpa using HC.out), if_neg (by rw [show inB (c : Int) 0 ((M.heads.length : Int) - 1) = true from (inB_iff _ _ _).2 ⟨by omega, by omega⟩]; simp)]; rfl
      refine ⟨h, ?_⟩
      unfold slotsCL
      rw [h]
      unfold slotsE slotsL
      cases chOk M c <;> simp
    go_wp2_with fail
    refine (chainOf_any M aS aH aF aL cS cH cF cL c wy HAy.out hok hc).mono ?_
    rintro e wx ⟨ao2, nn, cap2, rfl, hr2, hbx⟩
    have HWx : Hid (Below w.heap.size w wx) := HWy.out.trans (hbx.mono HWy.out.size)
    have HRx : Hid (IRow wx ao1 cap1 L1) := HRy.out.below hbx
    clear HWy HXy HRy HAy q0 q1 q2 q3 q4 qs
    cases hk : chOk M c
    · have HV : Hid (E1 = 4 ∧ L1 = []) := ⟨HE1.out.trans (HSl.out.1.trans (by unfold slotsE; rw [hk]; rfl)), HL1.out.trans (HSl.out.2.trans (by unfold slotsL; rw [hk]; rfl))⟩
      rw [HV.out.1, HV.out.2]
      clear hr2 hbx
      go_wp2
      go_ret
      exact ⟨rfl, HWx.out⟩
    obtain ⟨rfl, ho2⟩ := hr2 hk
    have HV : Hid (E1 = 0 ∧ L1 = chL M c) := ⟨HE1.out.trans (HSl.out.1.trans (by unfold slotsE; rw [hk]; rfl)), HL1.out.trans (HSl.out.2.trans (by unfold slotsL; rw [hk]; rfl))⟩
    have hle : (chL M c).length ≤ 12 := Nat.le_trans (walkL_len _ _ _) hok.ns
    obtain ⟨ax, cx, hax, hir⟩ := IRow.of_own ho2 (by omega)
    simp only [Value.slice.injEq, true_and] at hax
    obtain ⟨rfl, rfl⟩ := hax
    have HR2 : Hid (IRow wx ao2 cap2 (chL M c)) := hir
    have HRx2 : Hid (IRow wx ao1 cap1 (chL M c)) := by have := HRx.out; rw [HV.out.2] at this; exact this
    rw [HV.out.1, HV.out.2]
    clear ho2 hir HRx hbx
    generalize chL M c = l at *
    go_wp2_with fail
    refine (equalI_any ao1 ao2 cap1 cap2 l l wx HRx2.out HR2.out).mono ?_
    rw [show eqI l l = true from (eqI_iff _ _).2 rfl]
    rintro e wv ⟨rfl, hbv⟩
    have HWv : Hid (Below w.heap.size w wv) := HWx.out.trans (hbv.mono HWx.out.size)
    clear hbv HWx HR2 HRx2
    go_wp2
    go_ret
    exact ⟨rfl, HWv.out⟩

  · have h1 : (chkC M != chkC M) = false := by simp
    have h2 : (chkC M != 0) = true := by simpa using hC
    have h3 : (chkC M == 0) = false := by simpa using hC
    have hfl : flowsM M = [] := by unfold flowsM; rw [if_neg hC]
    rw [hfl]
    clear hfl HF5 HA5
    generalize chkC M = EC at *
    generalize hwz : w5 = wz at *
    have HWz : Hid (Below w.heap.size w wz) := HW5.out
    have HXz : Hid (wz.heap[w.heap.size]? = some (.cells #[.slice aS M.slots.length cS, .slice aH M.heads.length cH, .slice aF M.free.length cF, .slice aL M.locks.length cL, .int .i64 M.now] 29 (0, 0))) := HX5.out
    have HRz : Hid (IRow wz ao1 cap1 L1) := HR5.out
    clear HW5 HX5 HR5 hC hwz
    obtain ⟨q0, q1, q2, q3, q4, f0, f1, f2, f3, f4, qs⟩ := boxf HXz.out
    clear f0 f1 f2 f3 f4
    have HAz : Hid (Ans 0 wz (.agg #[.slice aS M.slots.length cS, .slice aH M.heads.length cH, .slice aF M.free.length cF, .slice aL M.locks.length cL, .int .i64 M.now]) M) := Ans.below HA.out HWz.out
    go_wp2_with fail
    refine (rcheck_any M _ wz 0 HAz.out).mono ?_
    rintro e wy ⟨rfl, hby⟩
    have HWy : Hid (Below w.heap.size w wy) := HWz.out.trans (hby.mono HWz.out.size)
    have HXy : Hid (wy.heap[w.heap.size]? = some (.cells #[.slice aS M.slots.length cS, .slice aH M.heads.length cH, .slice aF M.free.length cF, .slice aL M.locks.length cL, .int .i64 M.now] 29 (0, 0))) := (hby.block w.heap.size qs).trans HXz.out
    have HRy : Hid (IRow wy ao1 cap1 L1) := HRz.out.below hby
    clear hby HWz HXz HRz HAz q0 q1 q2 q3 q4 qs
    obtain ⟨q0, q1, q2, q3, q4, f0, f1, f2, f3, f4, qs⟩ := boxf HXy.out
    clear f0 f1 f2 f3 f4
    by_cases hE : chk M = 0
    rotate_left
    · have HV : Hid (E1 = chk M ∧ L1 = []) := HBd.out _ hE (by unfold slotsCE; rw [if_pos hE])
      have h1 : (chk M == 0) = false := by simpa using hE
      have h2 : (chk M != 0) = true := by simpa using hE
      rw [HV.out.1, HV.out.2]
      have h3 : (chk M == chk M) = true := by simp
      clear HXy HRy
      generalize chk M = E at *
      go_wp2
      go_ret
      exact ⟨rfl, HWy.out⟩
    have HC : Hid (chk M = 0) := hE
    have hok := (chk_zero M).1 hE
    rw [hE]
    clear hE
    have n1 := hok.nh
    by_cases hb0 : b < 0
    · have HV : Hid (E1 = 5 ∧ L1 = []) := HBd.out 5 (by decide) (by unfold slotsCE; rw [if_neg (by simpa using HC.out), if_pos (by rw [Bool.eq_false_iff]; intro h; rw [inB_iff] at h; omega)])
      rw [HV.out.1, HV.out.2]
      go_wp2
      go_ret
      exact ⟨rfl, HWy.out⟩
    have hb0' : 0 ≤ b := by omega
    by_cases hb1 : (M.heads.length : Int) ≤ b
    · have HV : Hid (E1 = 5 ∧ L1 = []) := HBd.out 5 (by decide) (by unfold slotsCE; rw [if_neg (by simpa using HC.out), if_pos (by rw [Bool.eq_false_iff]; intro h; rw [inB_iff] at h; omega)])
      rw [HV.out.1, HV.out.2]
      go_wp2
      go_ret
      exact ⟨rfl, HWy.out⟩
    obtain ⟨c, rfl⟩ : ∃ c : Nat, b = c := ⟨b.toNat, by omega⟩
    have hc : c < M.heads.length := by omega
    have hc' : (c : Int) < M.heads.length := by omega
    have HAy : Hid _ := HAt.out.below HWy.out
    have HSl : Hid (slotsCE M c = slotsE M c ∧ slotsCL M c = slotsL M c) := by
      have h : slotsCE M c = slotsE M c := by unfold slotsCE; rw [if_neg (by simpa using HC.out), if_neg (by rw [show inB (c : Int) 0 ((M.heads.length : Int) - 1) = true from (inB_iff _ _ _).2 ⟨by omega, by omega⟩]; simp)]; rfl
      refine ⟨h, ?_⟩
      unfold slotsCL
      rw [h]
      unfold slotsE slotsL
      cases chOk M c <;> simp
    go_wp2_with fail
    refine (chainOf_any M aS aH aF aL cS cH cF cL c wy HAy.out hok hc).mono ?_
    rintro e wx ⟨ao2, nn, cap2, rfl, hr2, hbx⟩
    have HWx : Hid (Below w.heap.size w wx) := HWy.out.trans (hbx.mono HWy.out.size)
    have HRx : Hid (IRow wx ao1 cap1 L1) := HRy.out.below hbx
    clear HWy HXy HRy HAy q0 q1 q2 q3 q4 qs
    cases hk : chOk M c
    · have HV : Hid (E1 = 4 ∧ L1 = []) := ⟨HE1.out.trans (HSl.out.1.trans (by unfold slotsE; rw [hk]; rfl)), HL1.out.trans (HSl.out.2.trans (by unfold slotsL; rw [hk]; rfl))⟩
      rw [HV.out.1, HV.out.2]
      clear hr2 hbx
      go_wp2
      go_ret
      exact ⟨rfl, HWx.out⟩
    obtain ⟨rfl, ho2⟩ := hr2 hk
    have HV : Hid (E1 = 0 ∧ L1 = chL M c) := ⟨HE1.out.trans (HSl.out.1.trans (by unfold slotsE; rw [hk]; rfl)), HL1.out.trans (HSl.out.2.trans (by unfold slotsL; rw [hk]; rfl))⟩
    have hle : (chL M c).length ≤ 12 := Nat.le_trans (walkL_len _ _ _) hok.ns
    obtain ⟨ax, cx, hax, hir⟩ := IRow.of_own ho2 (by omega)
    simp only [Value.slice.injEq, true_and] at hax
    obtain ⟨rfl, rfl⟩ := hax
    have HR2 : Hid (IRow wx ao2 cap2 (chL M c)) := hir
    have HRx2 : Hid (IRow wx ao1 cap1 (chL M c)) := by have := HRx.out; rw [HV.out.2] at this; exact this
    rw [HV.out.1, HV.out.2]
    clear ho2 hir HRx hbx
    generalize chL M c = l at *
    go_wp2_with fail
    refine (equalI_any ao1 ao2 cap1 cap2 l l wx HRx2.out HR2.out).mono ?_
    rw [show eqI l l = true from (eqI_iff _ _).2 rfl]
    rintro e wv ⟨rfl, hbv⟩
    have HWv : Hid (Below w.heap.size w wv) := HWx.out.trans (hbv.mono HWx.out.size)
    clear hbv HWx HR2 HRx2
    go_wp2
    go_ret
    exact ⟨rfl, HWv.out⟩



end Go.Proofs.Ytdbilofhcadmoaa.mm
