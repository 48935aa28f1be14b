/- The contracts of changed, at hold and at put. -/
import Derived.Test.YtdbilofhcadmoaaDone
namespace Go.Proofs.Ytdbilofhcadmoaa.mm
open Go.ChangeShapes Go.WideShapes Go.ChangeAt Go.RowKit Go.Joins
set_option linter.unusedVariables false

theorem refs_in {M : Mm} (h : chk M = 0) {i : Int} (hi : isSl M i = true) : 0 ≤ i ∧ i < M.slots.length ∧ 0 ≤ refsM M i ∧ refsM M i ≤ 1000 := by
  have hb := (inB_iff _ _ _).1 hi
  obtain ⟨j, rfl⟩ : ∃ j : Nat, i = j := ⟨i.toNat, by omega⟩
  have hj : j < M.slots.length := by omega
  have hrr : refsM M j = M.slots[j].refs := by simp [refsM, List.getD_eq_getElem?_getD, hj]
  have ho := ((chk_zero M).1 h).slot _ (List.getElem_mem hj)
  rw [hrr]
  refine ⟨by omega, by omega, ?_⟩
  have : inB M.slots[j].refs 0 1000 = true := by
    cases hh : inB M.slots[j].refs 0 1000
    · simp [slotErr, hh] at ho
    · rfl
  exact (inB_iff _ _ _).1 this

set_option maxHeartbeats 3200000 in
theorem changed_hold (M : Mm) (aS aH aF aL : Option Addr) (cS cH cF cL : Nat) (i : Int) (w : World) (A : At w aS aH aF aL cS cH cF cL M) :
    Calls Try.prog 64 #[.agg #[.slice aS M.slots.length cS, .slice aH M.heads.length cH, .slice aF M.free.length cF, .slice aL M.locks.length cL, .int .i64 M.now], .int .i64 i, .func (.func 65) #[] #[]] w fun e w' => ∃ v, e = .returned (.tuple #[v, .int .i64 (heldE M i)]) ∧ Ans w.heap.size w' v (heldM M i) ∧ Below w.heap.size w w' := by
  have m1 := A.s.max; have m2 := A.h.max; have m4 := A.l.max
  have n1 : M.slots.length ≤ 9223372036854775807 := by omega
  obtain ⟨E0, hE0⟩ : ∃ E0, E0 = heldE M i := ⟨_, rfl⟩
  obtain ⟨M1, hM1⟩ : ∃ M1, M1 = heldM M i := ⟨_, rfl⟩
  rw [← hE0, ← hM1]
  have HE0 : Hid _ := hE0
  have HM1 : Hid _ := hM1
  clear hE0 hM1
  obtain ⟨o1, ho1⟩ : ∃ o : Obj, o = .cells #[.slice aS M.slots.length cS, .slice aH M.heads.length cH, .slice aF M.free.length cF, .slice aL M.locks.length cL, .int .i64 M.now] 29 := ⟨_, rfl⟩
  obtain ⟨o2, ho2⟩ : ∃ o : Obj, o = .cells #[.slice none 0 0, .slice none 0 0, .slice none 0 0, .slice none 0 0, .int .i64 0] 29 := ⟨_, rfl⟩
  have b0 : Below w.heap.size w ((w.alloc o1).alloc o2) := below_alloc2 w o1 o2
  have HB0 : Hid (((w.alloc o1).alloc o2).heap[w.heap.size]? = some o1) := by show _ = _; rw [Below.heap_alloc _ _ _ (by simp), heap_alloc_new]
  have HR0 : Hid (((w.alloc o1).alloc o2).heap[w.heap.size + 1]? = some o2) := by
    have := heap_alloc_new (w.alloc o1) o2
    rwa [show (w.alloc o1).heap.size = w.heap.size + 1 by simp] at this
  have HA0 : Hid _ := A.below b0
  clear A
  go_enter Try.func64, Try.ntmps64
  go_wp2_with fail
  rw [← ho1, ← ho2]
  generalize (w.alloc o1).alloc o2 = W0 at *
  subst ho1 ho2
  refine (check_any M aS aH aF aL cS cH cF cL W0 HA0.out).mono ?_
  rintro e w1 ⟨rfl, hb1⟩
  have b1 := b0.trans (hb1.mono b0.size)
  have HB1 : Hid _ := (hb1.block w.heap.size (lt_of_block HB0.out)).trans HB0.out
  have HR1 : Hid _ := (hb1.block (w.heap.size + 1) (lt_of_block HR0.out)).trans HR0.out
  have HA1 : Hid _ := HA0.out.below hb1
  clear hb1 b0 HB0 HR0 HA0
  by_cases hE : chk M = 0
  rotate_left
  · have HV : Hid (E0 = chk M ∧ M1 = m0) := by
      have : heldE M i = chk M := by unfold heldE; rw [if_pos hE]
      exact ⟨HE0.out.trans this, HM1.out.trans (by unfold heldM; rw [this, if_neg hE])⟩
    have h' : (chk M != 0) = true := by simpa using hE
    obtain ⟨r0, r1, r2, r3, r4, g0, g1, g2, g3, g4, rs⟩ := boxf HR1.out
    clear HB1 HR1 HA1
    generalize chk M = E at *
    go_wp2
    refine bodyPost_ret (v := .tuple #[.agg #[.slice none 0 0, .slice none 0 0, .slice none 0 0, .slice none 0 0, .int .i64 0], .int .i64 E]) (by simp [results, Try.results64, go_sem, r0, r1, r2, r3, r4]) rfl ⟨_, by rw [HV.out.1], by rw [HV.out.2]; exact ans0 _ _, ?_⟩
    exact b1.trans (set5_below w1 _ _ _ _ _ _ _ (by omega))
  have HC : Hid (chk M = 0) := hE
  rw [hE]
  clear hE
  obtain ⟨q0, q1, q2, q3, q4, f0, f1, f2, f3, f4, qs⟩ := boxf HB1.out
  go_wp2_with fail
  refine (isSlot_any aS aH aF aL _ _ _ _ cS cH cF cL _ _ w1 n1).mono ?_
  rintro e w2 ⟨rfl, hb2⟩
  have b2 := b1.trans (hb2.mono b1.size)
  have HB2 : Hid _ := (hb2.block w.heap.size (lt_of_block HB1.out)).trans HB1.out
  have HR2 : Hid _ := (hb2.block (w.heap.size + 1) (lt_of_block HR1.out)).trans HR1.out
  have HA2 : Hid _ := HA1.out.below hb2
  clear hb2 b1 HB1 HR1 HA1 q0 q1 q2 q3 q4 f0 f1 f2 f3 f4 qs
  cases hS : inB i 0 ((M.slots.length : Int) - 1)
  · have HV : Hid (E0 = 5 ∧ M1 = m0) := by
      have : heldE M i = 5 := by unfold heldE; rw [if_neg (by simpa using HC.out), if_pos (show isSl M i = false from hS)]
      exact ⟨HE0.out.trans this, HM1.out.trans (by unfold heldM; rw [this, if_neg (by decide)])⟩
    obtain ⟨r0, r1, r2, r3, r4, g0, g1, g2, g3, g4, rs⟩ := boxf HR2.out
    clear HB2 HR2 HA2
    go_wp2
    refine bodyPost_ret (v := .tuple #[.agg #[.slice none 0 0, .slice none 0 0, .slice none 0 0, .slice none 0 0, .int .i64 0], .int .i64 5]) (by simp [results, Try.results64, go_sem, r0, r1, r2, r3, r4]) rfl ⟨_, by rw [HV.out.1], by rw [HV.out.2]; exact ans0 _ _, ?_⟩
    exact b2.trans (set5_below w2 _ _ _ _ _ _ _ (by omega))
  have HS : Hid (isSl M i = true) := hS
  clear hS
  obtain ⟨i0, i1, hr0, hr1⟩ := refs_in HC.out HS.out
  have m3 := ((chk_zero M).1 HC.out).few
  obtain ⟨q0, q1, q2, q3, q4, f0, f1, f2, f3, f4, qs⟩ := boxf HB2.out
  go_wp2_with fail
  refine (copy_any M aS aH aF aL cS cH cF cL w2 HA2.out).mono ?_
  rintro e w3 ⟨gS, gH, gF, gL, kS, kH, kF, kL, rfl, c3, hb3⟩
  have b3 := b2.trans (hb3.mono b2.size)
  have HB3 : Hid _ := (hb3.block w.heap.size (lt_of_block HB2.out)).trans HB2.out
  have HR3 : Hid _ := (hb3.block (w.heap.size + 1) (lt_of_block HR2.out)).trans HR2.out
  have t2 := lt_of_block HR2.out
  have b2s := b2.size
  clear hb3 b2 HB2 HR2 HA2 q0 q1 q2 q3 q4 f0 f1 f2 f3 f4 qs
  have hM : Mine (set5 w3 w.heap.size (.slice gS M.slots.length kS) (.slice gH M.heads.length kH) (.slice gF M.free.length kF) (.slice gL M.locks.length kL) (.int .i64 M.now)) w.heap.size w2.heap.size gS gH gF gL kS kH kF kL M :=
    ⟨set5_block HB3.out _ _ _ _ _, c3.set5 HB3.out _ _ _ _ _, m1, m2, by omega, m4⟩
  have b4 := b3.trans (set5_below w3 w.heap.size w.heap.size (.slice gS M.slots.length kS) (.slice gH M.heads.length kH) (.slice gF M.free.length kF) (.slice gL M.locks.length kL) (.int .i64 M.now) (Nat.le_refl _))
  have HR4 : Hid _ := (set5_other (w := w3) (g := w.heap.size) (v0 := .slice gS M.slots.length kS) (v1 := .slice gH M.heads.length kH) (v2 := .slice gF M.free.length kF) (v3 := .slice gL M.locks.length kL) (v4 := .int .i64 M.now) (k := w.heap.size + 1) (by omega)).trans HR3.out
  have HM : Hid _ := hM
  obtain ⟨q0, q1, q2, q3, q4, f0, f1, f2, f3, f4, qs⟩ := boxf HB3.out
  clear hM HB3 HR3 c3
  go_wp2_with fail
  rw [show ((((w3.setCell ⟨w.heap.size, 0, none⟩ (.slice gS M.slots.length kS)).setCell ⟨w.heap.size, 1, none⟩ (.slice gH M.heads.length kH)).setCell ⟨w.heap.size, 2, none⟩ (.slice gF M.free.length kF)).setCell ⟨w.heap.size, 3, none⟩ (.slice gL M.locks.length kL)).setCell ⟨w.heap.size, 4, none⟩ (.int .i64 M.now) = set5 w3 w.heap.size (.slice gS M.slots.length kS) (.slice gH M.heads.length kH) (.slice gF M.free.length kF) (.slice gL M.locks.length kL) (.int .i64 M.now) from rfl]
  clear q0 q1 q2 q3 q4 f0 f1 f2 f3 f4 qs b3
  generalize set5 w3 w.heap.size (.slice gS M.slots.length kS) (.slice gH M.heads.length kH) (.slice gF M.free.length kF) (.slice gL M.locks.length kL) (.int .i64 M.now) = W4 at *
  by_cases hr : refsM M i = 0 ∨ refsM M i = 1000
  · have HV : Hid (E0 = 8 ∧ M1 = m0) := by
      have : heldE M i = 8 := by unfold heldE; rw [if_neg (by simpa using HC.out), if_neg (by rw [HS.out]; simp), if_pos hr]
      exact ⟨HE0.out.trans this, HM1.out.trans (by unfold heldM; rw [this, if_neg (by decide)])⟩
    refine (hold_fail M W4 _ _ gS gH gF gL kS kH kF kL i HM.out i0 i1 hr).mono ?_
    rintro e w5 ⟨rfl, rfl⟩
    obtain ⟨r0, r1, r2, r3, r4, g0, g1, g2, g3, g4, rs⟩ := boxf HR4.out
    clear HR4 HM
    go_wp2
    refine bodyPost_ret (v := .tuple #[.agg #[.slice none 0 0, .slice none 0 0, .slice none 0 0, .slice none 0 0, .int .i64 0], .int .i64 8]) (by simp [results, Try.results64, go_sem, r0, r1, r2, r3, r4]) rfl ⟨_, by rw [HV.out.1], by rw [HV.out.2]; exact ans0 _ _, ?_⟩
    exact b4.trans (set5_below W4 _ _ _ _ _ _ _ (by omega))
  · have HV : Hid (E0 = 0 ∧ M1 = holdM M i) := by
      have : heldE M i = 0 := by unfold heldE; rw [if_neg (by simpa using HC.out), if_neg (by rw [HS.out]; simp), if_neg hr]
      exact ⟨HE0.out.trans this, HM1.out.trans (by unfold heldM; rw [this, if_pos rfl])⟩
    refine (hold_done M W4 _ _ gS gH gF gL kS kH kF kL i HM.out i0 i1 (by omega) (by omega)).mono ?_
    rintro e w5 ⟨rfl, aS', aH', aF', aL', cS', cH', cF', cL', k5, A5, kept, hi5⟩
    have b5 : Below w.heap.size w w5 := b4.trans ⟨kept.os, kept.tape, kept.output, kept.size, fun k hk => kept.block k (by omega) (by omega)⟩
    have HR5 : Hid _ := (kept.block (w.heap.size + 1) t2 (by omega)).trans HR4.out
    have HA5 : Hid _ := A5
    have HK5 : Hid _ := k5
    clear A5 kept HR4 HM b4 k5
    have hz5 := HR5.out
    obtain ⟨r0, r1, r2, r3, r4, g0, g1, g2, g3, g4, rs⟩ := boxf HR5.out
    obtain ⟨q0, q1, q2, q3, q4, f0, f1, f2, f3, f4, qs⟩ := boxf HK5.out
    clear hz5
    generalize hMn : holdM M i = Mn at *
    have HMn : Hid _ := hMn
    clear hMn
    go_wp2
    refine bodyPost_ret (v := .tuple #[.agg #[.slice aS' Mn.slots.length cS', .slice aH' Mn.heads.length cH', .slice aF' Mn.free.length cF', .slice aL' Mn.locks.length cL', .int .i64 Mn.now], .int .i64 0]) (by simp [results, Try.results64, go_sem, r0, r1, r2, r3, r4]) rfl ⟨_, by rw [HV.out.1], ?_, ?_⟩
    · rw [HV.out.2]
      have A6 := HA5.out.off hi5 t2 (fun k hk => set5_other (w := w5) (v0 := .slice aS' Mn.slots.length cS') (v1 := .slice aH' Mn.heads.length cH') (v2 := .slice aF' Mn.free.length cF') (v3 := .slice aL' Mn.locks.length cL') (v4 := .int .i64 Mn.now) hk)
      exact ⟨aS', aH', aF', aL', cS', cH', cF', cL', rfl, A6, hi5.mono b2s⟩
    · exact b5.trans (set5_below w5 _ _ _ _ _ _ _ (by omega))

set_option maxHeartbeats 3200000 in
theorem changed_put (M : Mm) (aS aH aF aL : Option Addr) (cS cH cF cL : Nat) (i : Int) (w : World) (A : At w aS aH aF aL cS cH cF cL M) :
    Calls Try.prog 64 #[.agg #[.slice aS M.slots.length cS, .slice aH M.heads.length cH, .slice aF M.free.length cF, .slice aL M.locks.length cL, .int .i64 M.now], .int .i64 i, .func (.func 66) #[] #[]] w fun e w' => ∃ v, e = .returned (.tuple #[v, .int .i64 (letE M i)]) ∧ Ans w.heap.size w' v (letM M i) ∧ Below w.heap.size w w' := by
  have m1 := A.s.max; have m2 := A.h.max; have m4 := A.l.max
  have n1 : M.slots.length ≤ 9223372036854775807 := by omega
  obtain ⟨E0, hE0⟩ : ∃ E0, E0 = letE M i := ⟨_, rfl⟩
  obtain ⟨M1, hM1⟩ : ∃ M1, M1 = letM M i := ⟨_, rfl⟩
  rw [← hE0, ← hM1]
  have HE0 : Hid _ := hE0
  have HM1 : Hid _ := hM1
  clear hE0 hM1
  obtain ⟨o1, ho1⟩ : ∃ o : Obj, o = .cells #[.slice aS M.slots.length cS, .slice aH M.heads.length cH, .slice aF M.free.length cF, .slice aL M.locks.length cL, .int .i64 M.now] 29 := ⟨_, rfl⟩
  obtain ⟨o2, ho2⟩ : ∃ o : Obj, o = .cells #[.slice none 0 0, .slice none 0 0, .slice none 0 0, .slice none 0 0, .int .i64 0] 29 := ⟨_, rfl⟩
  have b0 : Below w.heap.size w ((w.alloc o1).alloc o2) := below_alloc2 w o1 o2
  have HB0 : Hid (((w.alloc o1).alloc o2).heap[w.heap.size]? = some o1) := by show _ = _; rw [Below.heap_alloc _ _ _ (by simp), heap_alloc_new]
  have HR0 : Hid (((w.alloc o1).alloc o2).heap[w.heap.size + 1]? = some o2) := by
    have := heap_alloc_new (w.alloc o1) o2
    rwa [show (w.alloc o1).heap.size = w.heap.size + 1 by simp] at this
  have HA0 : Hid _ := A.below b0
  clear A
  go_enter Try.func64, Try.ntmps64
  go_wp2_with fail
  rw [← ho1, ← ho2]
  generalize (w.alloc o1).alloc o2 = W0 at *
  subst ho1 ho2
  refine (check_any M aS aH aF aL cS cH cF cL W0 HA0.out).mono ?_
  rintro e w1 ⟨rfl, hb1⟩
  have b1 := b0.trans (hb1.mono b0.size)
  have HB1 : Hid _ := (hb1.block w.heap.size (lt_of_block HB0.out)).trans HB0.out
  have HR1 : Hid _ := (hb1.block (w.heap.size + 1) (lt_of_block HR0.out)).trans HR0.out
  have HA1 : Hid _ := HA0.out.below hb1
  clear hb1 b0 HB0 HR0 HA0
  by_cases hE : chk M = 0
  rotate_left
  · have HV : Hid (E0 = chk M ∧ M1 = m0) := by
      have : letE M i = chk M := by unfold letE; rw [if_pos hE]
      exact ⟨HE0.out.trans this, HM1.out.trans (by unfold letM; rw [this, if_neg hE])⟩
    have h' : (chk M != 0) = true := by simpa using hE
    obtain ⟨r0, r1, r2, r3, r4, g0, g1, g2, g3, g4, rs⟩ := boxf HR1.out
    clear HB1 HR1 HA1
    generalize chk M = E at *
    go_wp2
    refine bodyPost_ret (v := .tuple #[.agg #[.slice none 0 0, .slice none 0 0, .slice none 0 0, .slice none 0 0, .int .i64 0], .int .i64 E]) (by simp [results, Try.results64, go_sem, r0, r1, r2, r3, r4]) rfl ⟨_, by rw [HV.out.1], by rw [HV.out.2]; exact ans0 _ _, ?_⟩
    exact b1.trans (set5_below w1 _ _ _ _ _ _ _ (by omega))
  have HC : Hid (chk M = 0) := hE
  rw [hE]
  clear hE
  obtain ⟨q0, q1, q2, q3, q4, f0, f1, f2, f3, f4, qs⟩ := boxf HB1.out
  go_wp2_with fail
  refine (isSlot_any aS aH aF aL _ _ _ _ cS cH cF cL _ _ w1 n1).mono ?_
  rintro e w2 ⟨rfl, hb2⟩
  have b2 := b1.trans (hb2.mono b1.size)
  have HB2 : Hid _ := (hb2.block w.heap.size (lt_of_block HB1.out)).trans HB1.out
  have HR2 : Hid _ := (hb2.block (w.heap.size + 1) (lt_of_block HR1.out)).trans HR1.out
  have HA2 : Hid _ := HA1.out.below hb2
  clear hb2 b1 HB1 HR1 HA1 q0 q1 q2 q3 q4 f0 f1 f2 f3 f4 qs
  cases hS : inB i 0 ((M.slots.length : Int) - 1)
  · have HV : Hid (E0 = 5 ∧ M1 = m0) := by
      have : letE M i = 5 := by unfold letE; rw [if_neg (by simpa using HC.out), if_pos (show isSl M i = false from hS)]
      exact ⟨HE0.out.trans this, HM1.out.trans (by unfold letM; rw [this, if_neg (by decide)])⟩
    obtain ⟨r0, r1, r2, r3, r4, g0, g1, g2, g3, g4, rs⟩ := boxf HR2.out
    clear HB2 HR2 HA2
    go_wp2
    refine bodyPost_ret (v := .tuple #[.agg #[.slice none 0 0, .slice none 0 0, .slice none 0 0, .slice none 0 0, .int .i64 0], .int .i64 5]) (by simp [results, Try.results64, go_sem, r0, r1, r2, r3, r4]) rfl ⟨_, by rw [HV.out.1], by rw [HV.out.2]; exact ans0 _ _, ?_⟩
    exact b2.trans (set5_below w2 _ _ _ _ _ _ _ (by omega))
  have HS : Hid (isSl M i = true) := hS
  clear hS
  obtain ⟨i0, i1, hr0, hr1⟩ := refs_in HC.out HS.out
  have m3 := ((chk_zero M).1 HC.out).few
  obtain ⟨q0, q1, q2, q3, q4, f0, f1, f2, f3, f4, qs⟩ := boxf HB2.out
  go_wp2_with fail
  refine (copy_any M aS aH aF aL cS cH cF cL w2 HA2.out).mono ?_
  rintro e w3 ⟨gS, gH, gF, gL, kS, kH, kF, kL, rfl, c3, hb3⟩
  have b3 := b2.trans (hb3.mono b2.size)
  have HB3 : Hid _ := (hb3.block w.heap.size (lt_of_block HB2.out)).trans HB2.out
  have HR3 : Hid _ := (hb3.block (w.heap.size + 1) (lt_of_block HR2.out)).trans HR2.out
  have t2 := lt_of_block HR2.out
  have b2s := b2.size
  clear hb3 b2 HB2 HR2 HA2 q0 q1 q2 q3 q4 f0 f1 f2 f3 f4 qs
  have hM : Mine (set5 w3 w.heap.size (.slice gS M.slots.length kS) (.slice gH M.heads.length kH) (.slice gF M.free.length kF) (.slice gL M.locks.length kL) (.int .i64 M.now)) w.heap.size w2.heap.size gS gH gF gL kS kH kF kL M :=
    ⟨set5_block HB3.out _ _ _ _ _, c3.set5 HB3.out _ _ _ _ _, m1, m2, by omega, m4⟩
  have b4 := b3.trans (set5_below w3 w.heap.size w.heap.size (.slice gS M.slots.length kS) (.slice gH M.heads.length kH) (.slice gF M.free.length kF) (.slice gL M.locks.length kL) (.int .i64 M.now) (Nat.le_refl _))
  have HR4 : Hid _ := (set5_other (w := w3) (g := w.heap.size) (v0 := .slice gS M.slots.length kS) (v1 := .slice gH M.heads.length kH) (v2 := .slice gF M.free.length kF) (v3 := .slice gL M.locks.length kL) (v4 := .int .i64 M.now) (k := w.heap.size + 1) (by omega)).trans HR3.out
  have HM : Hid _ := hM
  obtain ⟨q0, q1, q2, q3, q4, f0, f1, f2, f3, f4, qs⟩ := boxf HB3.out
  clear hM HB3 HR3 c3
  go_wp2_with fail
  rw [show ((((w3.setCell ⟨w.heap.size, 0, none⟩ (.slice gS M.slots.length kS)).setCell ⟨w.heap.size, 1, none⟩ (.slice gH M.heads.length kH)).setCell ⟨w.heap.size, 2, none⟩ (.slice gF M.free.length kF)).setCell ⟨w.heap.size, 3, none⟩ (.slice gL M.locks.length kL)).setCell ⟨w.heap.size, 4, none⟩ (.int .i64 M.now) = set5 w3 w.heap.size (.slice gS M.slots.length kS) (.slice gH M.heads.length kH) (.slice gF M.free.length kF) (.slice gL M.locks.length kL) (.int .i64 M.now) from rfl]
  clear q0 q1 q2 q3 q4 f0 f1 f2 f3 f4 qs b3
  generalize set5 w3 w.heap.size (.slice gS M.slots.length kS) (.slice gH M.heads.length kH) (.slice gF M.free.length kF) (.slice gL M.locks.length kL) (.int .i64 M.now) = W4 at *
  by_cases hr : refsM M i = 0
  · have HV : Hid (E0 = 8 ∧ M1 = m0) := by
      have : letE M i = 8 := by unfold letE; rw [if_neg (by simpa using HC.out), if_neg (by rw [HS.out]; simp), if_pos hr]
      exact ⟨HE0.out.trans this, HM1.out.trans (by unfold letM; rw [this, if_neg (by decide)])⟩
    refine (put_fail M W4 _ _ gS gH gF gL kS kH kF kL i HM.out i0 i1 hr).mono ?_
    rintro e w5 ⟨rfl, rfl⟩
    obtain ⟨r0, r1, r2, r3, r4, g0, g1, g2, g3, g4, rs⟩ := boxf HR4.out
    clear HR4 HM
    go_wp2
    refine bodyPost_ret (v := .tuple #[.agg #[.slice none 0 0, .slice none 0 0, .slice none 0 0, .slice none 0 0, .int .i64 0], .int .i64 8]) (by simp [results, Try.results64, go_sem, r0, r1, r2, r3, r4]) rfl ⟨_, by rw [HV.out.1], by rw [HV.out.2]; exact ans0 _ _, ?_⟩
    exact b4.trans (set5_below W4 _ _ _ _ _ _ _ (by omega))
  · have HV : Hid (E0 = 0 ∧ M1 = putM M i) := by
      have : letE M i = 0 := by unfold letE; rw [if_neg (by simpa using HC.out), if_neg (by rw [HS.out]; simp), if_neg hr]
      exact ⟨HE0.out.trans this, HM1.out.trans (by unfold letM; rw [this, if_pos rfl])⟩
    refine (put_done M W4 _ _ gS gH gF gL kS kH kF kL i HM.out i0 i1 (by omega) hr1 (by omega)).mono ?_
    rintro e w5 ⟨rfl, aS', aH', aF', aL', cS', cH', cF', cL', k5, A5, kept, hi5⟩
    have b5 : Below w.heap.size w w5 := b4.trans ⟨kept.os, kept.tape, kept.output, kept.size, fun k hk => kept.block k (by omega) (by omega)⟩
    have HR5 : Hid _ := (kept.block (w.heap.size + 1) t2 (by omega)).trans HR4.out
    have HA5 : Hid _ := A5
    have HK5 : Hid _ := k5
    clear A5 kept HR4 HM b4 k5
    have hz5 := HR5.out
    obtain ⟨r0, r1, r2, r3, r4, g0, g1, g2, g3, g4, rs⟩ := boxf HR5.out
    obtain ⟨q0, q1, q2, q3, q4, f0, f1, f2, f3, f4, qs⟩ := boxf HK5.out
    clear hz5
    generalize hMn : putM M i = Mn at *
    have HMn : Hid _ := hMn
    clear hMn
    go_wp2
    refine bodyPost_ret (v := .tuple #[.agg #[.slice aS' Mn.slots.length cS', .slice aH' Mn.heads.length cH', .slice aF' Mn.free.length cF', .slice aL' Mn.locks.length cL', .int .i64 Mn.now], .int .i64 0]) (by simp [results, Try.results64, go_sem, r0, r1, r2, r3, r4]) rfl ⟨_, by rw [HV.out.1], ?_, ?_⟩
    · rw [HV.out.2]
      have A6 := HA5.out.off hi5 t2 (fun k hk => set5_other (w := w5) (v0 := .slice aS' Mn.slots.length cS') (v1 := .slice aH' Mn.heads.length cH') (v2 := .slice aF' Mn.free.length cF') (v3 := .slice aL' Mn.locks.length cL') (v4 := .int .i64 Mn.now) hk)
      exact ⟨aS', aH', aF', aL', cS', cH', cF', cL', rfl, A6, hi5.mono b2s⟩
    · exact b5.trans (set5_below w5 _ _ _ _ _ _ _ (by omega))


end Go.Proofs.Ytdbilofhcadmoaa.mm
