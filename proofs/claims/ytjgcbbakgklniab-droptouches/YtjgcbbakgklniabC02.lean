/- The contracts of changed, at hold and at put. -/
import Derived.Test.YtjgcbbakgklniabC01
import Derived.Deep.RegionLaw
import Derived.Maps.AppendAt
import Derived.Laws.AppendOwnNone
import Derived.Deep.QuietTactic
import Derived.BigQuiet
import Derived.BigRegion
import Derived.Maps.OwnOps
import Derived.Maps.OwnSet
namespace Go.Proofs.Ytjgcbbakgklniab.mm
open Go.ChangeShapes Go.WideShapes Go.ChangeAt Go.RowKit Go.Joins
set_option linter.unusedVariables false

theorem refs_in {M : Mm} (h : chk M = 0) {i : Int} (hi : isSl M i = true) : 0 ≤ i ∧ i < M.slots.length ∧ 0 ≤ refsM M i ∧ refsM M i ≤ 1000 := by
  have hb := (inB_iff _ _ _).1 hi
  obtain ⟨j, rfl⟩ : ∃ j : Nat, i = j := ⟨i.toNat, by omega⟩
  have hj : j < M.slots.length := by omega
  have hrr : refsM M j = M.slots[j].refs := by simp [refsM, List.getD_eq_getElem?_getD, hj]
  have ho := ((chk_zero M).1 h).slot _ (List.getElem_mem hj)
  rw [hrr]
  refine ⟨by omega, by omega, ?_⟩
  have : inB M.slots[j].refs 0 1000 = true := by
    cases hh : inB M.slots[j].refs 0 1000
    · simp [slotErr, hh] at ho
    · rfl
  exact (inB_iff _ _ _).1 this

set_option maxHeartbeats 3200000 in
theorem changed_hold (M : Mm) (aS aH aF aL : Option Addr) (cS cH cF cL : Nat) (i : Int) (w : World) (A : At w aS aH aF aL cS cH cF cL M) :
    Calls Try.prog 106 #[.agg #[.slice aS M.slots.length cS, .slice aH M.heads.length cH, .slice aF M.free.length cF, .slice aL M.locks.length cL, .int .i64 M.now], .int .i64 i, .func (.func 150) #[] #[]] w fun e w' => ∃ v, e = .returned (.tuple #[v, .int .i64 (heldE M i)]) ∧ Ans w.heap.size w' v (heldM M i) ∧ Below w.heap.size w w' := by
  have m1 := A.s.max; have m2 := A.h.max; have m4 := A.l.max
  have n1 : M.slots.length ≤ 9223372036854775807 := by omega
  obtain ⟨E0, hE0⟩ : ∃ E0, E0 = heldE M i := ⟨_, rfl⟩
  obtain ⟨M1, hM1⟩ : ∃ M1, M1 = heldM M i := ⟨_, rfl⟩
  rw [← hE0, ← hM1]
  have HE0 : Hid _ := hE0
  have HM1 : Hid _ := hM1
  clear hE0 hM1
  obtain ⟨o1, ho1⟩ : ∃ o : Obj, o = .cells #[.slice aS M.slots.length cS, .slice aH M.heads.length cH, .slice aF M.free.length cF, .slice aL M.locks.length cL, .int .i64 M.now] 25 := ⟨_, rfl⟩
  obtain ⟨o2, ho2⟩ : ∃ o : Obj, o = .cells #[.slice none 0 0, .slice none 0 0, .slice none 0 0, .slice none 0 0, .int .i64 0] 25 := ⟨_, rfl⟩
  have b0 : Below w.heap.size w ((w.alloc o1).alloc o2) := below_alloc2 w o1 o2
  have HB0 : Hid (((w.alloc o1).alloc o2).heap[w.heap.size]? = some o1) := by show _ = _; rw [Below.heap_alloc _ _ _ (by simp), heap_alloc_new]
  have HR0 : Hid (((w.alloc o1).alloc o2).heap[w.heap.size + 1]? = some o2) := by
    have := heap_alloc_new (w.alloc o1) o2
    rwa [show (w.alloc o1).heap.size = w.heap.size + 1 by simp] at this
  have HA0 : Hid _ := A.below b0
  clear A
  go_enter Try.func106, Try.ntmps106
  go_wp2_with fail
  rw [← ho1, ← ho2]
  generalize (w.alloc o1).alloc o2 = W0 at *
  subst ho1 ho2
  refine (check_any M aS aH aF aL cS cH cF cL W0 HA0.out).mono ?_
  rintro e w1 ⟨rfl, hb1⟩
  have b1 := b0.trans (hb1.mono b0.size)
  have HB1 : Hid _ := (hb1.block w.heap.size (lt_of_block HB0.out)).trans HB0.out
  have HR1 : Hid _ := (hb1.block (w.heap.size + 1) (lt_of_block HR0.out)).trans HR0.out
  have HA1 : Hid _ := HA0.out.below hb1
  clear hb1 b0 HB0 HR0 HA0
  by_cases hE : chk M = 0
  rotate_left
  · have HV : Hid (E0 = chk M ∧ M1 = m0) := by
      have : heldE M i = chk M := by unfold heldE; rw [if_pos hE]
      exact ⟨HE0.out.trans this, HM1.out.trans (by unfold heldM; rw [this, if_neg hE])⟩
    have h' : (chk M != 0) = true := by simpa using hE
    obtain ⟨r0, r1, r2, r3, r4, g0, g1, g2, g3, g4, rs⟩ := boxf HR1.out
    clear HB1 HR1 HA1
    generalize chk M = E at *
    go_wp2
    refine bodyPost_ret (v := .tuple #[.agg #[.slice none 0 0, .slice none 0 0, .slice none 0 0, .slice none 0 0, .int .i64 0], .int .i64 E]) (by simp [results, Try.results106, go_sem, r0, r1, r2, r3, r4]) rfl ⟨_, by rw [HV.out.1], by rw [HV.out.2]; exact ans0 _ _, ?_⟩
    exact b1.trans (set5_below w1 _ _ _ _ _ _ _ (by omega))
  have HC : Hid (chk M = 0) := hE
  rw [hE]
  clear hE
  obtain ⟨q0, q1, q2, q3, q4, f0, f1, f2, f3, f4, qs⟩ := boxf HB1.out
  go_wp2_with fail
  refine (isSlot_any aS aH aF aL _ _ _ _ cS cH cF cL _ _ w1 n1).mono ?_
  rintro e w2 ⟨rfl, hb2⟩
  have b2 := b1.trans (hb2.mono b1.size)
  have HB2 : Hid _ := (hb2.block w.heap.size (lt_of_block HB1.out)).trans HB1.out
  have HR2 : Hid _ := (hb2.block (w.heap.size + 1) (lt_of_block HR1.out)).trans HR1.out
  have HA2 : Hid _ := HA1.out.below hb2
  clear hb2 b1 HB1 HR1 HA1 q0 q1 q2 q3 q4 f0 f1 f2 f3 f4 qs
  cases hS : inB i 0 ((M.slots.length : Int) - 1)
  · have HV : Hid (E0 = 5 ∧ M1 = m0) := by
      have : heldE M i = 5 := by unfold heldE; rw [if_neg (by simpa using HC.out), if_pos (show isSl M i = false from hS)]
      exact ⟨HE0.out.trans this, HM1.out.trans (by unfold heldM; rw [this, if_neg (by decide)])⟩
    obtain ⟨r0, r1, r2, r3, r4, g0, g1, g2, g3, g4, rs⟩ := boxf HR2.out
    clear HB2 HR2 HA2
    go_wp2
    refine bodyPost_ret (v := .tuple #[.agg #[.slice none 0 0, .slice none 0 0, .slice none 0 0, .slice none 0 0, .int .i64 0], .int .i64 5]) (by simp [results, Try.results106, go_sem, r0, r1, r2, r3, r4]) rfl ⟨_, by rw [HV.out.1], by rw [HV.out.2]; exact ans0 _ _, ?_⟩
    exact b2.trans (set5_below w2 _ _ _ _ _ _ _ (by omega))
  have HS : Hid (isSl M i = true) := hS
  clear hS
  obtain ⟨i0, i1, hr0, hr1⟩ := refs_in HC.out HS.out
  have m3 := ((chk_zero M).1 HC.out).few
  obtain ⟨q0, q1, q2, q3, q4, f0, f1, f2, f3, f4, qs⟩ := boxf HB2.out
  go_wp2_with fail
  refine (copy_any M aS aH aF aL cS cH cF cL w2 HA2.out).mono ?_
  rintro e w3 ⟨gS, gH, gF, gL, kS, kH, kF, kL, rfl, c3, hb3⟩
  have b3 := b2.trans (hb3.mono b2.size)
  have HB3 : Hid _ := (hb3.block w.heap.size (lt_of_block HB2.out)).trans HB2.out
  have HR3 : Hid _ := (hb3.block (w.heap.size + 1) (lt_of_block HR2.out)).trans HR2.out
  have t2 := lt_of_block HR2.out
  have b2s := b2.size
  clear hb3 b2 HB2 HR2 HA2 q0 q1 q2 q3 q4 f0 f1 f2 f3 f4 qs
  have hM : Mine (set5 w3 w.heap.size (.slice gS M.slots.length kS) (.slice gH M.heads.length kH) (.slice gF M.free.length kF) (.slice gL M.locks.length kL) (.int .i64 M.now)) w.heap.size w2.heap.size gS gH gF gL kS kH kF kL M :=
    ⟨set5_block HB3.out _ _ _ _ _, c3.set5 HB3.out _ _ _ _ _, m1, m2, by omega, m4⟩
  have b4 := b3.trans (set5_below w3 w.heap.size w.heap.size (.slice gS M.slots.length kS) (.slice gH M.heads.length kH) (.slice gF M.free.length kF) (.slice gL M.locks.length kL) (.int .i64 M.now) (Nat.le_refl _))
  have HR4 : Hid _ := (set5_other (w := w3) (g := w.heap.size) (v0 := .slice gS M.slots.length kS) (v1 := .slice gH M.heads.length kH) (v2 := .slice gF M.free.length kF) (v3 := .slice gL M.locks.length kL) (v4 := .int .i64 M.now) (k := w.heap.size + 1) (by omega)).trans HR3.out
  have HM : Hid _ := hM
  obtain ⟨q0, q1, q2, q3, q4, f0, f1, f2, f3, f4, qs⟩ := boxf HB3.out
  clear hM HB3 HR3 c3
  go_wp2_with fail
  rw [show ((((w3.setCell ⟨w.heap.size, 0, none⟩ (.slice gS M.slots.length kS)).setCell ⟨w.heap.size, 1, none⟩ (.slice gH M.heads.length kH)).setCell ⟨w.heap.size, 2, none⟩ (.slice gF M.free.length kF)).setCell ⟨w.heap.size, 3, none⟩ (.slice gL M.locks.length kL)).setCell ⟨w.heap.size, 4, none⟩ (.int .i64 M.now) = set5 w3 w.heap.size (.slice gS M.slots.length kS) (.slice gH M.heads.length kH) (.slice gF M.free.length kF) (.slice gL M.locks.length kL) (.int .i64 M.now) from rfl]
  clear q0 q1 q2 q3 q4 f0 f1 f2 f3 f4 qs b3
  generalize set5 w3 w.heap.size (.slice gS M.slots.length kS) (.slice gH M.heads.length kH) (.slice gF M.free.length kF) (.slice gL M.locks.length kL) (.int .i64 M.now) = W4 at *
  by_cases hr : refsM M i = 0 ∨ refsM M i = 1000
  · have HV : Hid (E0 = 8 ∧ M1 = m0) := by
      have : heldE M i = 8 := by unfold heldE; rw [if_neg (by simpa using HC.out), if_neg (by rw [HS.out]; simp), if_pos hr]
      exact ⟨HE0.out.trans this, HM1.out.trans (by unfold heldM; rw [this, if_neg (by decide)])⟩
    refine (hold_fail M W4 _ _ gS gH gF gL kS kH kF kL i HM.out i0 i1 hr).mono ?_
    rintro e w5 ⟨rfl, rfl⟩
    obtain ⟨r0, r1, r2, r3, r4, g0, g1, g2, g3, g4, rs⟩ := boxf HR4.out
    clear HR4 HM
    go_wp2
    refine bodyPost_ret (v := .tuple #[.agg #[.slice none 0 0, .slice none 0 0, .slice none 0 0, .slice none 0 0, .int .i64 0], .int .i64 8]) (by simp [results, Try.results106, go_sem, r0, r1, r2, r3, r4]) rfl ⟨_, by rw [HV.out.1], by rw [HV.out.2]; exact ans0 _ _, ?_⟩
    exact b4.trans (set5_below W4 _ _ _ _ _ _ _ (by omega))
  · have HV : Hid (E0 = 0 ∧ M1 = holdM M i) := by
      have : heldE M i = 0 := by unfold heldE; rw [if_neg (by simpa using HC.out), if_neg (by rw [HS.out]; simp), if_neg hr]
      exact ⟨HE0.out.trans this, HM1.out.trans (by unfold heldM; rw [this, if_pos rfl])⟩
    refine (hold_done M W4 _ _ gS gH gF gL kS kH kF kL i HM.out i0 i1 (by omega) (by omega)).mono ?_
    rintro e w5 ⟨rfl, aS', aH', aF', aL', cS', cH', cF', cL', k5, A5, kept, hi5⟩
    have b5 : Below w.heap.size w w5 := b4.trans ⟨kept.os, kept.tape, kept.output, kept.size, fun k hk => kept.block k (by omega) (by omega)⟩
    have HR5 : Hid _ := (kept.block (w.heap.size + 1) t2 (by omega)).trans HR4.out
    have HA5 : Hid _ := A5
    have HK5 : Hid _ := k5
    clear A5 kept HR4 HM b4 k5
    have hz5 := HR5.out
    obtain ⟨r0, r1, r2, r3, r4, g0, g1, g2, g3, g4, rs⟩ := boxf HR5.out
    obtain ⟨q0, q1, q2, q3, q4, f0, f1, f2, f3, f4, qs⟩ := boxf HK5.out
    clear hz5
    generalize hMn : holdM M i = Mn at *
    have HMn : Hid _ := hMn
    clear hMn
    go_wp2
    refine bodyPost_ret (v := .tuple #[.agg #[.slice aS' Mn.slots.length cS', .slice aH' Mn.heads.length cH', .slice aF' Mn.free.length cF', .slice aL' Mn.locks.length cL', .int .i64 Mn.now], .int .i64 0]) (by simp [results, Try.results106, go_sem, r0, r1, r2, r3, r4]) rfl ⟨_, by rw [HV.out.1], ?_, ?_⟩
    · rw [HV.out.2]
      have A6 := HA5.out.off hi5 t2 (fun k hk => set5_other (w := w5) (v0 := .slice aS' Mn.slots.length cS') (v1 := .slice aH' Mn.heads.length cH') (v2 := .slice aF' Mn.free.length cF') (v3 := .slice aL' Mn.locks.length cL') (v4 := .int .i64 Mn.now) hk)
      exact ⟨aS', aH', aF', aL', cS', cH', cF', cL', rfl, A6, hi5.mono b2s⟩
    · exact b5.trans (set5_below w5 _ _ _ _ _ _ _ (by omega))

set_option maxHeartbeats 3200000 in
theorem changed_put (M : Mm) (aS aH aF aL : Option Addr) (cS cH cF cL : Nat) (i : Int) (w : World) (A : At w aS aH aF aL cS cH cF cL M) :
    Calls Try.prog 106 #[.agg #[.slice aS M.slots.length cS, .slice aH M.heads.length cH, .slice aF M.free.length cF, .slice aL M.locks.length cL, .int .i64 M.now], .int .i64 i, .func (.func 107) #[] #[]] w fun e w' => ∃ v, e = .returned (.tuple #[v, .int .i64 (letE M i)]) ∧ Ans w.heap.size w' v (letM M i) ∧ Below w.heap.size w w' := by
  have m1 := A.s.max; have m2 := A.h.max; have m4 := A.l.max
  have n1 : M.slots.length ≤ 9223372036854775807 := by omega
  obtain ⟨E0, hE0⟩ : ∃ E0, E0 = letE M i := ⟨_, rfl⟩
  obtain ⟨M1, hM1⟩ : ∃ M1, M1 = letM M i := ⟨_, rfl⟩
  rw [← hE0, ← hM1]
  have HE0 : Hid _ := hE0
  have HM1 : Hid _ := hM1
  clear hE0 hM1
  obtain ⟨o1, ho1⟩ : ∃ o : Obj, o = .cells #[.slice aS M.slots.length cS, .slice aH M.heads.length cH, .slice aF M.free.length cF, .slice aL M.locks.length cL, .int .i64 M.now] 25 := ⟨_, rfl⟩
  obtain ⟨o2, ho2⟩ : ∃ o : Obj, o = .cells #[.slice none 0 0, .slice none 0 0, .slice none 0 0, .slice none 0 0, .int .i64 0] 25 := ⟨_, rfl⟩
  have b0 : Below w.heap.size w ((w.alloc o1).alloc o2) := below_alloc2 w o1 o2
  have HB0 : Hid (((w.alloc o1).alloc o2).heap[w.heap.size]? = some o1) := by show _ = _; rw [Below.heap_alloc _ _ _ (by simp), heap_alloc_new]
  have HR0 : Hid (((w.alloc o1).alloc o2).heap[w.heap.size + 1]? = some o2) := by
    have := heap_alloc_new (w.alloc o1) o2
    rwa [show (w.alloc o1).heap.size = w.heap.size + 1 by simp] at this
  have HA0 : Hid _ := A.below b0
  clear A
  go_enter Try.func106, Try.ntmps106
  go_wp2_with fail
  rw [← ho1, ← ho2]
  generalize (w.alloc o1).alloc o2 = W0 at *
  subst ho1 ho2
  refine (check_any M aS aH aF aL cS cH cF cL W0 HA0.out).mono ?_
  rintro e w1 ⟨rfl, hb1⟩
  have b1 := b0.trans (hb1.mono b0.size)
  have HB1 : Hid _ := (hb1.block w.heap.size (lt_of_block HB0.out)).trans HB0.out
  have HR1 : Hid _ := (hb1.block (w.heap.size + 1) (lt_of_block HR0.out)).trans HR0.out
  have HA1 : Hid _ := HA0.out.below hb1
  clear hb1 b0 HB0 HR0 HA0
  by_cases hE : chk M = 0
  rotate_left
  · have HV : Hid (E0 = chk M ∧ M1 = m0) := by
      have : letE M i = chk M := by unfold letE; rw [if_pos hE]
      exact ⟨HE0.out.trans this, HM1.out.trans (by unfold letM; rw [this, if_neg hE])⟩
    have h' : (chk M != 0) = true := by simpa using hE
    obtain ⟨r0, r1, r2, r3, r4, g0, g1, g2, g3, g4, rs⟩ := boxf HR1.out
    clear HB1 HR1 HA1
    generalize chk M = E at *
    go_wp2
    refine bodyPost_ret (v := .tuple #[.agg #[.slice none 0 0, .slice none 0 0, .slice none 0 0, .slice none 0 0, .int .i64 0], .int .i64 E]) (by simp [results, Try.results106, go_sem, r0, r1, r2, r3, r4]) rfl ⟨_, by rw [HV.out.1], by rw [HV.out.2]; exact ans0 _ _, ?_⟩
    exact b1.trans (set5_below w1 _ _ _ _ _ _ _ (by omega))
  have HC : Hid (chk M = 0) := hE
  rw [hE]
  clear hE
  obtain ⟨q0, q1, q2, q3, q4, f0, f1, f2, f3, f4, qs⟩ := boxf HB1.out
  go_wp2_with fail
  refine (isSlot_any aS aH aF aL _ _ _ _ cS cH cF cL _ _ w1 n1).mono ?_
  rintro e w2 ⟨rfl, hb2⟩
  have b2 := b1.trans (hb2.mono b1.size)
  have HB2 : Hid _ := (hb2.block w.heap.size (lt_of_block HB1.out)).trans HB1.out
  have HR2 : Hid _ := (hb2.block (w.heap.size + 1) (lt_of_block HR1.out)).trans HR1.out
  have HA2 : Hid _ := HA1.out.below hb2
  clear hb2 b1 HB1 HR1 HA1 q0 q1 q2 q3 q4 f0 f1 f2 f3 f4 qs
  cases hS : inB i 0 ((M.slots.length : Int) - 1)
  · have HV : Hid (E0 = 5 ∧ M1 = m0) := by
      have : letE M i = 5 := by unfold letE; rw [if_neg (by simpa using HC.out), if_pos (show isSl M i = false from hS)]
      exact ⟨HE0.out.trans this, HM1.out.trans (by unfold letM; rw [this, if_neg (by decide)])⟩
    obtain ⟨r0, r1, r2, r3, r4, g0, g1, g2, g3, g4, rs⟩ := boxf HR2.out
    clear HB2 HR2 HA2
    go_wp2
    refine bodyPost_ret (v := .tuple #[.agg #[.slice none 0 0, .slice none 0 0, .slice none 0 0, .slice none 0 0, .int .i64 0], .int .i64 5]) (by simp [results, Try.results106, go_sem, r0, r1, r2, r3, r4]) rfl ⟨_, by rw [HV.out.1], by rw [HV.out.2]; exact ans0 _ _, ?_⟩
    exact b2.trans (set5_below w2 _ _ _ _ _ _ _ (by omega))
  have HS : Hid (isSl M i = true) := hS
  clear hS
  obtain ⟨i0, i1, hr0, hr1⟩ := refs_in HC.out HS.out
  have m3 := ((chk_zero M).1 HC.out).few
  obtain ⟨q0, q1, q2, q3, q4, f0, f1, f2, f3, f4, qs⟩ := boxf HB2.out
  go_wp2_with fail
  refine (copy_any M aS aH aF aL cS cH cF cL w2 HA2.out).mono ?_
  rintro e w3 ⟨gS, gH, gF, gL, kS, kH, kF, kL, rfl, c3, hb3⟩
  have b3 := b2.trans (hb3.mono b2.size)
  have HB3 : Hid _ := (hb3.block w.heap.size (lt_of_block HB2.out)).trans HB2.out
  have HR3 : Hid _ := (hb3.block (w.heap.size + 1) (lt_of_block HR2.out)).trans HR2.out
  have t2 := lt_of_block HR2.out
  have b2s := b2.size
  clear hb3 b2 HB2 HR2 HA2 q0 q1 q2 q3 q4 f0 f1 f2 f3 f4 qs
  have hM : Mine (set5 w3 w.heap.size (.slice gS M.slots.length kS) (.slice gH M.heads.length kH) (.slice gF M.free.length kF) (.slice gL M.locks.length kL) (.int .i64 M.now)) w.heap.size w2.heap.size gS gH gF gL kS kH kF kL M :=
    ⟨set5_block HB3.out _ _ _ _ _, c3.set5 HB3.out _ _ _ _ _, m1, m2, by omega, m4⟩
  have b4 := b3.trans (set5_below w3 w.heap.size w.heap.size (.slice gS M.slots.length kS) (.slice gH M.heads.length kH) (.slice gF M.free.length kF) (.slice gL M.locks.length kL) (.int .i64 M.now) (Nat.le_refl _))
  have HR4 : Hid _ := (set5_other (w := w3) (g := w.heap.size) (v0 := .slice gS M.slots.length kS) (v1 := .slice gH M.heads.length kH) (v2 := .slice gF M.free.length kF) (v3 := .slice gL M.locks.length kL) (v4 := .int .i64 M.now) (k := w.heap.size + 1) (by omega)).trans HR3.out
  have HM : Hid _ := hM
  obtain ⟨q0, q1, q2, q3, q4, f0, f1, f2, f3, f4, qs⟩ := boxf HB3.out
  clear hM HB3 HR3 c3
  go_wp2_with fail
  rw [show ((((w3.setCell ⟨w.heap.size, 0, none⟩ (.slice gS M.slots.length kS)).setCell ⟨w.heap.size, 1, none⟩ (.slice gH M.heads.length kH)).setCell ⟨w.heap.size, 2, none⟩ (.slice gF M.free.length kF)).setCell ⟨w.heap.size, 3, none⟩ (.slice gL M.locks.length kL)).setCell ⟨w.heap.size, 4, none⟩ (.int .i64 M.now) = set5 w3 w.heap.size (.slice gS M.slots.length kS) (.slice gH M.heads.length kH) (.slice gF M.free.length kF) (.slice gL M.locks.length kL) (.int .i64 M.now) from rfl]
  clear q0 q1 q2 q3 q4 f0 f1 f2 f3 f4 qs b3
  generalize set5 w3 w.heap.size (.slice gS M.slots.length kS) (.slice gH M.heads.length kH) (.slice gF M.free.length kF) (.slice gL M.locks.length kL) (.int .i64 M.now) = W4 at *
  by_cases hr : refsM M i = 0
  · have HV : Hid (E0 = 8 ∧ M1 = m0) := by
      have : letE M i = 8 := by unfold letE; rw [if_neg (by simpa using HC.out), if_neg (by rw [HS.out]; simp), if_pos hr]
      exact ⟨HE0.out.trans this, HM1.out.trans (by unfold letM; rw [this, if_neg (by decide)])⟩
    refine (put_fail M W4 _ _ gS gH gF gL kS kH kF kL i HM.out i0 i1 hr).mono ?_
    rintro e w5 ⟨rfl, rfl⟩
    obtain ⟨r0, r1, r2, r3, r4, g0, g1, g2, g3, g4, rs⟩ := boxf HR4.out
    clear HR4 HM
    go_wp2
    refine bodyPost_ret (v := .tuple #[.agg #[.slice none 0 0, .slice none 0 0, .slice none 0 0, .slice none 0 0, .int .i64 0], .int .i64 8]) (by simp [results, Try.results106, go_sem, r0, r1, r2, r3, r4]) rfl ⟨_, by rw [HV.out.1], by rw [HV.out.2]; exact ans0 _ _, ?_⟩
    exact b4.trans (set5_below W4 _ _ _ _ _ _ _ (by omega))
  · have HV : Hid (E0 = 0 ∧ M1 = putM M i) := by
      have : letE M i = 0 := by unfold letE; rw [if_neg (by simpa using HC.out), if_neg (by rw [HS.out]; simp), if_neg hr]
      exact ⟨HE0.out.trans this, HM1.out.trans (by unfold letM; rw [this, if_pos rfl])⟩
    refine (put_done M W4 _ _ gS gH gF gL kS kH kF kL i HM.out i0 i1 (by omega) hr1 (by omega)).mono ?_
    rintro e w5 ⟨rfl, aS', aH', aF', aL', cS', cH', cF', cL', k5, A5, kept, hi5⟩
    have b5 : Below w.heap.size w w5 := b4.trans ⟨kept.os, kept.tape, kept.output, kept.size, fun k hk => kept.block k (by omega) (by omega)⟩
    have HR5 : Hid _ := (kept.block (w.heap.size + 1) t2 (by omega)).trans HR4.out
    have HA5 : Hid _ := A5
    have HK5 : Hid _ := k5
    clear A5 kept HR4 HM b4 k5
    have hz5 := HR5.out
    obtain ⟨r0, r1, r2, r3, r4, g0, g1, g2, g3, g4, rs⟩ := boxf HR5.out
    obtain ⟨q0, q1, q2, q3, q4, f0, f1, f2, f3, f4, qs⟩ := boxf HK5.out
    clear hz5
    generalize hMn : putM M i = Mn at *
    have HMn : Hid _ := hMn
    clear hMn
    go_wp2
    refine bodyPost_ret (v := .tuple #[.agg #[.slice aS' Mn.slots.length cS', .slice aH' Mn.heads.length cH', .slice aF' Mn.free.length cF', .slice aL' Mn.locks.length cL', .int .i64 Mn.now], .int .i64 0]) (by simp [results, Try.results106, go_sem, r0, r1, r2, r3, r4]) rfl ⟨_, by rw [HV.out.1], ?_, ?_⟩
    · rw [HV.out.2]
      have A6 := HA5.out.off hi5 t2 (fun k hk => set5_other (w := w5) (v0 := .slice aS' Mn.slots.length cS') (v1 := .slice aH' Mn.heads.length cH') (v2 := .slice aF' Mn.free.length cF') (v3 := .slice aL' Mn.locks.length cL') (v4 := .int .i64 Mn.now) hk)
      exact ⟨aS', aH', aF', aL', cS', cH', cF', cL', rfl, A6, hi5.mono b2s⟩
    · exact b5.trans (set5_below w5 _ _ _ _ _ _ _ (by omega))




end Go.Proofs.Ytjgcbbakgklniab.mm

/- The contracts of Held and Let. -/
namespace Go.Proofs.Ytjgcbbakgklniab.mm
open Go.ChangeShapes Go.WideShapes Go.ChangeAt Go.RowKit Go.Joins
set_option linter.unusedVariables false

set_option maxHeartbeats 1600000 in
theorem let_any (M : Mm) (v : Value) (i : Int) (w : World) (lo : Nat) (A : Ans lo w v M) :
    Calls Try.prog 47 #[v, .int .i64 i] w fun e w' => ∃ v, e = .returned (.tuple #[v, .int .i64 (letE M i)]) ∧ Ans w.heap.size w' v (letM M i) ∧ Below w.heap.size w w' := by
  obtain ⟨aS, aH, aF, aL, cS, cH, cF, cL, rfl, A, -⟩ := A
  generalize hE : letE M i = E0
  generalize hM : letM M i = M1
  have HE : Hid _ := hE
  have HM : Hid _ := hM
  clear hE hM
  obtain ⟨o1, ho1⟩ : ∃ o : Obj, o = .cells #[.slice aS M.slots.length cS, .slice aH M.heads.length cH, .slice aF M.free.length cF, .slice aL M.locks.length cL, .int .i64 M.now] 25 := ⟨_, rfl⟩
  obtain ⟨o2, ho2⟩ : ∃ o : Obj, o = .cells #[.slice none 0 0, .slice none 0 0, .slice none 0 0, .slice none 0 0, .int .i64 0] 25 := ⟨_, rfl⟩
  have b0 : Below w.heap.size w ((w.alloc o1).alloc o2) := below_alloc2 w o1 o2
  have HR0 : Hid (((w.alloc o1).alloc o2).heap[w.heap.size + 1]? = some o2) := by
    have := heap_alloc_new (w.alloc o1) o2
    rwa [show (w.alloc o1).heap.size = w.heap.size + 1 by simp] at this
  have HA0 : Hid _ := A.below b0
  clear A
  go_enter Try.func47, Try.ntmps47
  go_wp2_with fail
  rw [← ho1, ← ho2]
  generalize (w.alloc o1).alloc o2 = W0 at *
  subst ho1 ho2
  refine (changed_put M aS aH aF aL cS cH cF cL i W0 HA0.out).mono ?_
  rw [HE.out, HM.out]
  rintro e w1 ⟨v1, rfl, ⟨aS', aH', aF', aL', cS', cH', cF', cL', rfl, A1, hi1⟩, hb1⟩
  have b1 := b0.trans (hb1.mono b0.size)
  have HR1 : Hid _ := (hb1.block (w.heap.size + 1) (lt_of_block HR0.out)).trans HR0.out
  have HA1 : Hid _ := A1
  have HL : Hid (w.heap.size + 1 < W0.heap.size) := lt_of_block HR0.out
  have HL2 : Hid (w.heap.size ≤ W0.heap.size) := b0.size
  clear hb1 b0 HA0 A1
  obtain ⟨r0, r1, r2, r3, r4, g0, g1, g2, g3, g4, rs⟩ := boxf HR1.out
  go_wp2
  refine bodyPost_ret (v := .tuple #[.agg #[.slice aS' M1.slots.length cS', .slice aH' M1.heads.length cH', .slice aF' M1.free.length cF', .slice aL' M1.locks.length cL', .int .i64 M1.now], .int .i64 E0]) (by simp [results, Try.results47, go_sem, r0, r1, r2, r3, r4]) rfl ⟨_, rfl, ?_, ?_⟩
  · have A6 := HA1.out.off hi1 HL.out (fun k hk => set5_other (w := w1) (v0 := .slice aS' M1.slots.length cS') (v1 := .slice aH' M1.heads.length cH') (v2 := .slice aF' M1.free.length cF') (v3 := .slice aL' M1.locks.length cL') (v4 := .int .i64 M1.now) hk)
    exact ⟨aS', aH', aF', aL', cS', cH', cF', cL', rfl, A6, hi1.mono HL2.out⟩
  · exact b1.trans (set5_below w1 _ _ _ _ _ _ _ (by omega))




end Go.Proofs.Ytjgcbbakgklniab.mm

/- The contract of Taken. -/
namespace Go.Proofs.Ytjgcbbakgklniab.mm
open Go.ChangeShapes Go.WideShapes Go.ChangeAt Go.RowKit Go.Joins
set_option linter.unusedVariables false

theorem keyf {w : World} {B : Nat} {v0 v1 : Value} {t : TypeId} (h : w.heap[B]? = some (.cells #[v0, v1] t (0, 0))) : w.cell? ⟨B, 0, none⟩ = some v0 ∧ w.cell? ⟨B, 1, none⟩ = some v1 :=
  ⟨by rw [cell_of_block h]; rfl, by rw [cell_of_block h]; rfl⟩

theorem last_in {M : Mm} (h : Ok M) (hF : 0 < M.free.length) : 0 ≤ lastF M ∧ lastF M < M.slots.length ∧ refsM M (lastF M) = 0 ∧ lastF M ∈ M.free := by
  have hl : lastF M = M.free[M.free.length - 1] := by
    have : M.free.length - 1 < M.free.length := by omega
    simp [lastF, List.getD_eq_getElem?_getD, this]
  have hm : lastF M ∈ M.free := by rw [hl]; exact List.getElem_mem _
  have := (freeOk_iff _ _).1 (h.free _ hm)
  exact ⟨this.1, this.2.1, this.2.2, hm⟩

set_option maxHeartbeats 3200000 in
theorem taken_any (M : Mm) (v : Value) (ka kb u : Int) (w : World) (lo : Nat) (A : Ans lo w v M) :
    Calls Try.prog 70 #[v, .agg #[.int .i64 ka, .int .i64 kb], .int .i64 u] w fun e w' => ∃ v, e = .returned (.tuple #[v, .int .i64 (takenN M ka kb u), .int .i64 (takenE M ka kb u)]) ∧ Ans w.heap.size w' v (takenM M ka kb u) ∧ Below w.heap.size w w' := by
  obtain ⟨aS, aH, aF, aL, cS, cH, cF, cL, rfl, A, -⟩ := A
  have m1 := A.s.max; have m2 := A.h.max; have m4 := A.l.max
  have n1 : M.slots.length ≤ 9223372036854775807 := by omega
  obtain ⟨E0, hE0⟩ : ∃ E0, E0 = takenE M ka kb u := ⟨_, rfl⟩
  obtain ⟨M1, hM1⟩ : ∃ M1, M1 = takenM M ka kb u := ⟨_, rfl⟩
  obtain ⟨N0, hN0⟩ : ∃ N0, N0 = takenN M ka kb u := ⟨_, rfl⟩
  rw [← hE0, ← hM1, ← hN0]
  have HE0 : Hid _ := hE0
  have HM1 : Hid _ := hM1
  have HN0 : Hid _ := hN0
  clear hE0 hM1 hN0
  obtain ⟨o1, ho1⟩ : ∃ o : Obj, o = .cells #[.slice aS M.slots.length cS, .slice aH M.heads.length cH, .slice aF M.free.length cF, .slice aL M.locks.length cL, .int .i64 M.now] 25 := ⟨_, rfl⟩
  obtain ⟨o3, ho3⟩ : ∃ o : Obj, o = .cells #[.int .i64 ka, .int .i64 kb] 37 := ⟨_, rfl⟩
  obtain ⟨o2, ho2⟩ : ∃ o : Obj, o = .cells #[.slice none 0 0, .slice none 0 0, .slice none 0 0, .slice none 0 0, .int .i64 0] 25 := ⟨_, rfl⟩
  have b0 : Below w.heap.size w (((w.alloc o1).alloc o3).alloc o2) := below_alloc3 w o1 o3 o2
  have HB0 : Hid ((((w.alloc o1).alloc o3).alloc o2).heap[w.heap.size]? = some o1) := by show _ = _; rw [Below.heap_alloc _ _ _ (by simp; omega), Below.heap_alloc _ _ _ (by simp), heap_alloc_new]
  have HK0 : Hid ((((w.alloc o1).alloc o3).alloc o2).heap[w.heap.size + 1]? = some o3) := by
    have := heap_alloc_new (w.alloc o1) o3
    rw [show (w.alloc o1).heap.size = w.heap.size + 1 by simp] at this
    show _ = _
    rw [Below.heap_alloc _ _ _ (by simp), this]
  have HR0 : Hid ((((w.alloc o1).alloc o3).alloc o2).heap[w.heap.size + 2]? = some o2) := by
    have := heap_alloc_new ((w.alloc o1).alloc o3) o2
    rwa [show ((w.alloc o1).alloc o3).heap.size = w.heap.size + 2 by simp] at this
  have HA0 : Hid _ := A.below b0
  clear A
  go_enter Try.func70, Try.ntmps70
  go_wp2_with fail
  rw [← ho1, ← ho2, ← ho3]
  generalize ((w.alloc o1).alloc o3).alloc o2 = W0 at *
  subst ho1 ho2 ho3
  refine (check_any M aS aH aF aL cS cH cF cL W0 HA0.out).mono ?_
  rintro e w1 ⟨rfl, hb1⟩
  have b1 := b0.trans (hb1.mono b0.size)
  have HB1 : Hid _ := (hb1.block w.heap.size (lt_of_block HB0.out)).trans HB0.out
  have HK1 : Hid _ := (hb1.block (w.heap.size + 1) (lt_of_block HK0.out)).trans HK0.out
  have HR1 : Hid _ := (hb1.block (w.heap.size + 2) (lt_of_block HR0.out)).trans HR0.out
  have HA1 : Hid _ := HA0.out.below hb1
  clear hb1 b0 HB0 HK0 HR0 HA0
  by_cases hE : chk M = 0
  rotate_left
  · have HV : Hid (E0 = chk M ∧ M1 = m0 ∧ N0 = 0) := by
      have h : takenE M ka kb u = chk M := by unfold takenE; rw [if_pos hE]
      have hn : takenE M ka kb u ≠ 0 := by rw [h]; exact hE
      exact ⟨HE0.out.trans h, HM1.out.trans (by unfold takenM; rw [if_neg hn]), HN0.out.trans (by unfold takenN; rw [if_neg hn])⟩
    have h' : (chk M != 0) = true := by simpa using hE
    obtain ⟨r0, r1, r2, r3, r4, g0, g1, g2, g3, g4, rs⟩ := boxf HR1.out
    clear HB1 HK1 HR1 HA1
    generalize chk M = E at *
    go_wp2
    refine bodyPost_ret (v := .tuple #[.agg #[.slice none 0 0, .slice none 0 0, .slice none 0 0, .slice none 0 0, .int .i64 0], .int .i64 0, .int .i64 E]) (by simp [results, Try.results70, go_sem, r0, r1, r2, r3, r4]) rfl ⟨_, by rw [HV.out.1, HV.out.2.2], by rw [HV.out.2.1]; exact ans0 _ _, ?_⟩
    exact b1.trans (set5_below w1 _ _ _ _ _ _ _ (by omega))
  have HC : Hid (chk M = 0) := hE
  rw [hE]
  clear hE
  obtain ⟨k0, k1⟩ := keyf HK1.out
  go_wp2_with fail
  refine (kcheck_any ka kb w1).mono ?_
  rintro e w2 ⟨rfl, hb2⟩
  have b2 := b1.trans (hb2.mono b1.size)
  have HB2 : Hid _ := (hb2.block w.heap.size (lt_of_block HB1.out)).trans HB1.out
  have HK2 : Hid _ := (hb2.block (w.heap.size + 1) (lt_of_block HK1.out)).trans HK1.out
  have HR2 : Hid _ := (hb2.block (w.heap.size + 2) (lt_of_block HR1.out)).trans HR1.out
  have HA2 : Hid _ := HA1.out.below hb2
  clear hb2 b1 HB1 HK1 HR1 HA1 k0 k1
  cases hK : keyB ka kb
  · have HV : Hid (E0 = 3 ∧ M1 = m0 ∧ N0 = 0) := by
      have h : takenE M ka kb u = 3 := by unfold takenE; rw [if_neg (by simpa using HC.out), if_pos hK]
      have hn : takenE M ka kb u ≠ 0 := by rw [h]; decide
      exact ⟨HE0.out.trans h, HM1.out.trans (by unfold takenM; rw [if_neg hn]), HN0.out.trans (by unfold takenN; rw [if_neg hn])⟩
    obtain ⟨r0, r1, r2, r3, r4, g0, g1, g2, g3, g4, rs⟩ := boxf HR2.out
    clear HB2 HK2 HR2 HA2
    go_wp2
    refine bodyPost_ret (v := .tuple #[.agg #[.slice none 0 0, .slice none 0 0, .slice none 0 0, .slice none 0 0, .int .i64 0], .int .i64 0, .int .i64 3]) (by simp [results, Try.results70, go_sem, r0, r1, r2, r3, r4]) rfl ⟨_, by rw [HV.out.1, HV.out.2.2], by rw [HV.out.2.1]; exact ans0 _ _, ?_⟩
    exact b2.trans (set5_below w2 _ _ _ _ _ _ _ (by omega))
  have HK : Hid (keyB ka kb = true) := hK
  clear hK
  rw [if_pos rfl]
  cases hU : inB u 0 2000000
  · have HV : Hid (E0 = 3 ∧ M1 = m0 ∧ N0 = 0) := by
      have h : takenE M ka kb u = 3 := by unfold takenE; rw [if_neg (by simpa using HC.out), if_neg (by rw [HK.out]; simp), if_pos hU]
      have hn : takenE M ka kb u ≠ 0 := by rw [h]; decide
      exact ⟨HE0.out.trans h, HM1.out.trans (by unfold takenM; rw [if_neg hn]), HN0.out.trans (by unfold takenN; rw [if_neg hn])⟩
    obtain ⟨r0, r1, r2, r3, r4, g0, g1, g2, g3, g4, rs⟩ := boxf HR2.out
    clear HB2 HK2 HR2 HA2
    go_wp2_with (go_at_call 81; refine (within_any _ _ _ _).mono ?_; rintro e w1 ⟨rfl, rfl⟩)
    refine bodyPost_ret (v := .tuple #[.agg #[.slice none 0 0, .slice none 0 0, .slice none 0 0, .slice none 0 0, .int .i64 0], .int .i64 0, .int .i64 3]) (by simp [results, Try.results70, go_sem, r0, r1, r2, r3, r4]) rfl ⟨_, by rw [HV.out.1, HV.out.2.2], by rw [HV.out.2.1]; exact ans0 _ _, ?_⟩
    exact b2.trans (set5_below w2 _ _ _ _ _ _ _ (by omega))
  have m3 := ((chk_zero M).1 HC.out).few
  obtain ⟨q0, q1, q2, q3, q4, f0, f1, f2, f3, f4, qs⟩ := boxf HB2.out
  go_wp2_with (go_at_call 81; refine (within_any _ _ _ _).mono ?_; rintro e w1 ⟨rfl, rfl⟩)
  have HU : Hid (inB u 0 2000000 = true) := hU
  clear hU
  refine (copy_any M aS aH aF aL cS cH cF cL w2 HA2.out).mono ?_
  rintro e w3 ⟨gS, gH, gF, gL, kS, kH, kF, kL, rfl, c3, hb3⟩
  have b3 := b2.trans (hb3.mono b2.size)
  have HB3 : Hid _ := (hb3.block w.heap.size (lt_of_block HB2.out)).trans HB2.out
  have HK3 : Hid _ := (hb3.block (w.heap.size + 1) (lt_of_block HK2.out)).trans HK2.out
  have HR3 : Hid _ := (hb3.block (w.heap.size + 2) (lt_of_block HR2.out)).trans HR2.out
  have t2 := lt_of_block HR2.out
  have b2s := b2.size
  clear hb3 b2 HB2 HK2 HR2 HA2 q0 q1 q2 q3 q4 f0 f1 f2 f3 f4 qs
  have hM : Mine (set5 w3 w.heap.size (.slice gS M.slots.length kS) (.slice gH M.heads.length kH) (.slice gF M.free.length kF) (.slice gL M.locks.length kL) (.int .i64 M.now)) w.heap.size w2.heap.size gS gH gF gL kS kH kF kL M :=
    ⟨set5_block HB3.out _ _ _ _ _, c3.set5 HB3.out _ _ _ _ _, m1, m2, by omega, m4⟩
  have b4 := b3.trans (set5_below w3 w.heap.size w.heap.size (.slice gS M.slots.length kS) (.slice gH M.heads.length kH) (.slice gF M.free.length kF) (.slice gL M.locks.length kL) (.int .i64 M.now) (Nat.le_refl _))
  have HR4 : Hid ((set5 w3 w.heap.size (.slice gS M.slots.length kS) (.slice gH M.heads.length kH) (.slice gF M.free.length kF) (.slice gL M.locks.length kL) (.int .i64 M.now)).heap[w.heap.size + 2]? = _) := (set5_other (by omega)).trans HR3.out
  have HK4 : Hid ((set5 w3 w.heap.size (.slice gS M.slots.length kS) (.slice gH M.heads.length kH) (.slice gF M.free.length kF) (.slice gL M.locks.length kL) (.int .i64 M.now)).heap[w.heap.size + 1]? = _) := (set5_other (by omega)).trans HK3.out
  have HM : Hid _ := hM
  obtain ⟨q0, q1, q2, q3, q4, f0, f1, f2, f3, f4, qs⟩ := boxf HB3.out
  obtain ⟨k0, k1⟩ := keyf HK3.out
  have kne : w.heap.size + 1 ≠ w.heap.size := by omega
  clear hM HB3 HR3 HK3 c3
  go_wp2_with fail
  rw [show ((((w3.setCell ⟨w.heap.size, 0, none⟩ (.slice gS M.slots.length kS)).setCell ⟨w.heap.size, 1, none⟩ (.slice gH M.heads.length kH)).setCell ⟨w.heap.size, 2, none⟩ (.slice gF M.free.length kF)).setCell ⟨w.heap.size, 3, none⟩ (.slice gL M.locks.length kL)).setCell ⟨w.heap.size, 4, none⟩ (.int .i64 M.now) = set5 w3 w.heap.size (.slice gS M.slots.length kS) (.slice gH M.heads.length kH) (.slice gF M.free.length kF) (.slice gL M.locks.length kL) (.int .i64 M.now) from rfl]
  clear q0 q1 q2 q3 q4 f0 f1 f2 f3 f4 qs b3 k0 k1
  generalize set5 w3 w.heap.size (.slice gS M.slots.length kS) (.slice gH M.heads.length kH) (.slice gF M.free.length kF) (.slice gL M.locks.length kL) (.int .i64 M.now) = W4 at *
  by_cases hF : M.free.length = 0
  · have HV : Hid (E0 = 7 ∧ M1 = m0 ∧ N0 = 0) := by
      have h : takenE M ka kb u = 7 := by unfold takenE; rw [if_neg (by simpa using HC.out), if_neg (by rw [HK.out]; simp), if_neg (by rw [HU.out]; simp), if_pos hF]
      have hn : takenE M ka kb u ≠ 0 := by rw [h]; decide
      exact ⟨HE0.out.trans h, HM1.out.trans (by unfold takenM; rw [if_neg hn]), HN0.out.trans (by unfold takenN; rw [if_neg hn])⟩
    have hbx := HM.out.box
    rw [hF] at hbx
    refine (take_no W4 w.heap.size _ _ _ _ _ _ ka kb u hbx).mono ?_
    rintro e w5 ⟨rfl, hb5⟩
    have b5 := b4.trans (hb5.mono b4.size)
    have HR5 : Hid _ := (hb5.block (w.heap.size + 2) (lt_of_block HR4.out)).trans HR4.out
    obtain ⟨r0, r1, r2, r3, r4, g0, g1, g2, g3, g4, rs⟩ := boxf HR5.out
    clear HR4 HM hb5 hbx hF HR5 HK4
    go_wp2
    refine bodyPost_ret (v := .tuple #[.agg #[.slice none 0 0, .slice none 0 0, .slice none 0 0, .slice none 0 0, .int .i64 0], .int .i64 0, .int .i64 7]) (by simp [results, Try.results70, go_sem, r0, r1, r2, r3, r4]) rfl ⟨_, by rw [HV.out.1, HV.out.2.2], by rw [HV.out.2.1]; exact ans0 _ _, ?_⟩
    exact b5.trans (set5_below w5 _ _ _ _ _ _ _ (by omega))
  · obtain ⟨i0, i1, -, -⟩ := last_in ((chk_zero M).1 HC.out) (by omega)
    have HV : Hid (E0 = 0 ∧ M1 = takeM M ka kb u ∧ N0 = lastF M) := by
      have : takenE M ka kb u = 0 := by unfold takenE; rw [if_neg (by simpa using HC.out), if_neg (by rw [HK.out]; simp), if_neg (by rw [HU.out]; simp), if_neg hF]
      exact ⟨HE0.out.trans this, HM1.out.trans (by unfold takenM; rw [this, if_pos rfl]), HN0.out.trans (by unfold takenN; rw [this, if_pos rfl])⟩
    refine (take_any M W4 _ _ gS gH gF gL kS kH kF kL ka kb u HM.out (by omega) i0 i1).mono ?_
    rintro e w5 ⟨rfl, aS', aH', aF', aL', cS', cH', cF', cL', k5, A5, kept, hi5⟩
    have b5 : Below w.heap.size w w5 := b4.trans ⟨kept.os, kept.tape, kept.output, kept.size, fun k hk => kept.block k (by omega) (by omega)⟩
    have HR5 : Hid _ := (kept.block (w.heap.size + 2) t2 (by omega)).trans HR4.out
    have HA5 : Hid _ := A5
    have HK5 : Hid _ := k5
    clear A5 kept HR4 HM b4 k5 HK4
    obtain ⟨r0, r1, r2, r3, r4, g0, g1, g2, g3, g4, rs⟩ := boxf HR5.out
    obtain ⟨q0, q1, q2, q3, q4, f0, f1, f2, f3, f4, qs⟩ := boxf HK5.out
    generalize hMn : takeM M ka kb u = Mn at *
    generalize hLn : lastF M = Ln at *
    clear hMn hLn
    go_wp2
    refine bodyPost_ret (v := .tuple #[.agg #[.slice aS' Mn.slots.length cS', .slice aH' Mn.heads.length cH', .slice aF' Mn.free.length cF', .slice aL' Mn.locks.length cL', .int .i64 Mn.now], .int .i64 Ln, .int .i64 0]) (by simp [results, Try.results70, go_sem, r0, r1, r2, r3, r4]) rfl ⟨_, by rw [HV.out.1, HV.out.2.2], ?_, ?_⟩
    · rw [HV.out.2.1]
      have A6 := HA5.out.off hi5 t2 (fun k hk => set5_other (w := w5) (v0 := .slice aS' Mn.slots.length cS') (v1 := .slice aH' Mn.heads.length cH') (v2 := .slice aF' Mn.free.length cF') (v3 := .slice aL' Mn.locks.length cL') (v4 := .int .i64 Mn.now) hk)
      exact ⟨aS', aH', aF', aL', cS', cH', cF', cL', rfl, A6, hi5.mono b2s⟩
    · exact b5.trans (set5_below w5 _ _ _ _ _ _ _ (by omega))




end Go.Proofs.Ytjgcbbakgklniab.mm

/- What is taken, held and put leaves memory as Check wants it; who holds and lets go leaves what was; what was put last is taken next. -/
namespace Go.Proofs.Ytjgcbbakgklniab.mm
set_option linter.unusedVariables false

theorem getD_lt (S : List Sl) (j : Nat) (h : j < S.length) : S.getD j sl0 = S[j] := by simp [List.getD_eq_getElem?_getD, h]
theorem getD_set_same (S : List Sl) (j : Nat) (s : Sl) (h : j < S.length) : (S.set j s).getD j sl0 = s := by simp [List.getD_eq_getElem?_getD, h]
theorem getD_set_other (S : List Sl) (i j : Nat) (s : Sl) (h : j ≠ i) : (S.set j s).getD i sl0 = S.getD i sl0 := by simp [List.getD_eq_getElem?_getD, List.getElem?_set_ne h]

theorem Ok.set {m : Mm} (h : Ok m) (j : Nat) (s : Sl) (hs : slotErr m.heads.length m.slots.length s = 0) (F : List Int) (h1 : ∀ a ∈ F, freeOk (m.slots.set j s) a = true) (h2 : F.Nodup)
    (h3 : ∀ i, i < m.slots.length → ((m.slots.set j s).getD i sl0).refs = 0 → (i : Int) ∈ F) : Ok { m with slots := m.slots.set j s, free := F } := by
  refine ⟨by simpa using h.ns, h.nh, h.nl, h.now, ?_, ?_, h1, h2, ?_⟩
  · intro x hx
    dsimp only at hx ⊢
    rw [List.length_set]
    rcases List.mem_or_eq_of_mem_set hx with hx | rfl
    · exact h.slot x hx
    · exact hs
  · intro p hp
    dsimp only at hp ⊢
    rw [List.length_set]
    exact h.chain p hp
  · intro i hi hr
    exact h3 i (by simpa using hi) hr

theorem slot_good {nh ns : Nat} {s : Sl} (h : slotErr nh ns s = 0) : inB s.refs 0 1000 = true ∧ inB s.unt 0 2000000 = true ∧ keyB s.a s.b = true ∧ inB s.next (-(nh : Int)) ns = true := by
  unfold slotErr at h
  split at h
  · rename_i h1
    split at h
    · rename_i h2
      simp only [Bool.and_eq_true] at h1
      exact ⟨h1.1.1, h1.1.2, h1.2, h2⟩
    · omega
  · omega
theorem good_slot {nh ns : Nat} {s : Sl} (h1 : inB s.refs 0 1000 = true) (h2 : inB s.unt 0 2000000 = true) (h3 : keyB s.a s.b = true) (h4 : inB s.next (-(nh : Int)) ns = true) : slotErr nh ns s = 0 := by
  simp [slotErr, h1, h2, h3, h4]

theorem free_split {m : Mm} (hF : 0 < m.free.length) : m.free = m.free.take (m.free.length - 1) ++ [lastF m] := by
  have hl : lastF m = m.free[m.free.length - 1] := by
    have : m.free.length - 1 < m.free.length := by omega
    simp [lastF, List.getD_eq_getElem?_getD, this]
  rw [hl]
  have := List.take_succ_eq_append_getElem (l := m.free) (i := m.free.length - 1) (by omega)
  rw [← this, show m.free.length - 1 + 1 = m.free.length by omega, List.take_length]

theorem last_ok {m : Mm} (h : Ok m) (hF : 0 < m.free.length) : 0 ≤ lastF m ∧ lastF m < m.slots.length ∧ refsM m (lastF m) = 0 := by
  have hm : lastF m ∈ m.free := by rw [free_split hF]; simp
  exact (freeOk_iff _ _).1 (h.free _ hm)

theorem take_ok {m : Mm} (h : Ok m) {ka kb u : Int} (hk : keyB ka kb = true) (hu : inB u 0 2000000 = true) (hF : 0 < m.free.length) : Ok (takeM m ka kb u) := by
  obtain ⟨l0, l1, l2⟩ := last_ok h hF
  obtain ⟨j, hj⟩ : ∃ j : Nat, lastF m = j := ⟨(lastF m).toNat, by omega⟩
  have hsp := free_split hF
  have hnd := h.nodup
  rw [hsp, List.nodup_append] at hnd
  have hjS : j < m.slots.length := by omega
  unfold takeM
  rw [hj] at *
  rw [Int.toNat_natCast]
  have hgood := slot_good (h.slot _ (List.getElem_mem hjS))
  refine h.set j _ (good_slot rfl hu hk ?_) _ ?_ hnd.1 ?_
  · rw [getD_lt _ _ hjS]; exact hgood.2.2.2
  · intro a ha
    have hne : a ≠ j := hnd.2.2 a ha j (by simp)
    have hf := (freeOk_iff _ _).1 (h.free a (List.mem_of_mem_take ha))
    rw [freeOk_iff]
    refine ⟨hf.1, by simpa using hf.2.1, ?_⟩
    rw [getD_set_other _ _ _ _ (by omega)]
    exact hf.2.2
  · intro i hi hr
    by_cases e : j = i
    · subst e
      rw [getD_set_same _ _ _ hjS] at hr
      simp at hr
    · rw [getD_set_other _ _ _ _ e] at hr
      have := h.all i hi hr
      rw [hsp, List.mem_append, List.mem_singleton] at this
      rcases this with h | h
      · exact h
      · omega

theorem refs_lt {m : Mm} {i : Nat} (h : i < m.slots.length) : refsM m i = m.slots[i].refs := by simp [refsM, List.getD_eq_getElem?_getD, h]

theorem setRefs_eq {m : Mm} {j : Nat} (h : j < m.slots.length) (r : Int) : setRefs m j r = m.slots.set j { m.slots[j] with refs := r } := by
  simp [setRefs, List.getD_eq_getElem?_getD, h]

theorem turn_ok {m : Mm} (h : Ok m) {j : Nat} (hj : j < m.slots.length) {r : Int} (h0 : 0 < r) (h1 : r ≤ 1000) (hr : refsM m j ≠ 0) : Ok { m with slots := setRefs m j r } := by
  rw [setRefs_eq hj]
  rw [refs_lt hj] at hr
  have hgood := slot_good (h.slot _ (List.getElem_mem hj))
  refine h.set j _ (good_slot (s := { m.slots[j] with refs := r }) ((inB_iff _ _ _).2 ⟨Int.le_of_lt h0, h1⟩) hgood.2.1 hgood.2.2.1 hgood.2.2.2) m.free ?_ h.nodup ?_
  · intro a ha
    have hf := (freeOk_iff _ _).1 (h.free a ha)
    have hne : a ≠ j := by
      rintro rfl
      rw [Int.toNat_natCast, getD_lt _ _ hj] at hf
      exact hr hf.2.2
    rw [freeOk_iff]
    refine ⟨hf.1, by simpa using hf.2.1, ?_⟩
    rw [getD_set_other _ _ _ _ (by omega)]
    exact hf.2.2
  · intro i hi hr'
    by_cases e : j = i
    · subst e
      rw [getD_set_same _ _ _ hj] at hr'
      dsimp only at hr'
      omega
    · rw [getD_set_other _ _ _ _ e] at hr'
      exact h.all i hi hr'

theorem isSl_iff (m : Mm) (i : Int) : isSl m i = true ↔ ∃ j : Nat, i = j ∧ j < m.slots.length := by
  unfold isSl
  rw [inB_iff]
  constructor
  · intro h
    exact ⟨i.toNat, by omega, by omega⟩
  · rintro ⟨j, rfl, h⟩
    omega

theorem hold_ok {m : Mm} (h : Ok m) {i : Int} (hi : isSl m i = true) (h0 : 0 < refsM m i) (h1 : refsM m i < 1000) : Ok (holdM m i) := by
  obtain ⟨j, rfl, hj⟩ := (isSl_iff m i).1 hi
  exact turn_ok h hj (by omega) (by omega) (by omega)

theorem put_ok {m : Mm} (h : Ok m) {i : Int} (hi : isSl m i = true) (h0 : 0 < refsM m i) (h1 : refsM m i ≤ 1000) : Ok (putM m i) := by
  obtain ⟨j, rfl, hj⟩ := (isSl_iff m i).1 hi
  by_cases hl : refsM m j = 1
  · have e : putM m j = { m with slots := setRefs m j 0, free := m.free ++ [(j : Int)] } := by simp [putM, hl]
    rw [e, setRefs_eq hj]
    rw [refs_lt hj] at hl
    have hgood := slot_good (h.slot _ (List.getElem_mem hj))
    have hnj : (j : Int) ∉ m.free := fun hm => by
      have hf := (freeOk_iff _ _).1 (h.free _ hm)
      rw [Int.toNat_natCast, getD_lt _ _ hj, hl] at hf
      omega
    refine h.set j _ (good_slot (s := { m.slots[j] with refs := 0 }) rfl hgood.2.1 hgood.2.2.1 hgood.2.2.2) _ ?_ ?_ ?_
    · intro a ha
      rw [List.mem_append, List.mem_singleton] at ha
      rw [freeOk_iff]
      rcases ha with ha | rfl
      · have hf := (freeOk_iff _ _).1 (h.free a ha)
        have hne : a ≠ j := by rintro rfl; exact hnj ha
        refine ⟨hf.1, by simpa using hf.2.1, ?_⟩
        rw [getD_set_other _ _ _ _ (by omega)]
        exact hf.2.2
      · refine ⟨by omega, by simpa using hj, ?_⟩
        rw [Int.toNat_natCast, getD_set_same _ _ _ hj]
    · rw [List.nodup_append]
      refine ⟨h.nodup, by simp, fun a ha b hb => ?_⟩
      rw [List.mem_singleton] at hb
      subst hb
      rintro rfl
      exact hnj ha
    · intro i hi' hr'
      rw [List.mem_append, List.mem_singleton]
      by_cases e : j = i
      · exact .inr (by omega)
      · rw [getD_set_other _ _ _ _ e] at hr'
        exact .inl (h.all i hi' hr')
  · have e : putM m j = { m with slots := setRefs m j (refsM m j - 1) } := by simp [putM, hl]
    rw [e]
    exact turn_ok h hj (by omega) (by omega) (by omega)

theorem isSl_hold (m : Mm) (i k : Int) : isSl (holdM m i) k = isSl m k := by simp [isSl, holdM, setRefs]
theorem isSl_put (m : Mm) (i k : Int) : isSl (putM m i) k = isSl m k := by simp [isSl, putM, setRefs]
theorem refs_hold {m : Mm} {i : Int} (hi : isSl m i = true) : refsM (holdM m i) i = refsM m i + 1 := by
  obtain ⟨j, rfl, hj⟩ := (isSl_iff m i).1 hi
  simp [holdM, refsM, setRefs, List.getD_eq_getElem?_getD, hj]
theorem refs_put {m : Mm} {i : Int} (hi : isSl m i = true) : refsM (putM m i) i = refsM m i - 1 := by
  obtain ⟨j, rfl, hj⟩ := (isSl_iff m i).1 hi
  simp [putM, refsM, setRefs, List.getD_eq_getElem?_getD, hj]

/- Slot i with so many Refs, all else as it was. -/
def withRefs (m : Mm) (i r : Int) : Mm := { m with slots := setRefs m i r }
theorem withRefs_self {m : Mm} {i : Int} (hi : isSl m i = true) : withRefs m i (refsM m i) = m := by
  obtain ⟨j, rfl, hj⟩ := (isSl_iff m i).1 hi
  obtain ⟨S, H, F, L, n⟩ := m
  dsimp only at hj
  have e : (S.getD j sl0) = S[j] := getD_lt S j hj
  simp only [withRefs, setRefs, refsM, Int.toNat_natCast, e, Mm.mk.injEq, and_true]
  exact List.set_getElem_self hj
theorem hold_with {m : Mm} {i : Int} : holdM m i = withRefs m i (refsM m i + 1) := rfl
theorem refs_with {m : Mm} {i : Int} (hi : isSl m i = true) (r : Int) : refsM (withRefs m i r) i = r := by
  obtain ⟨j, rfl, hj⟩ := (isSl_iff m i).1 hi
  simp [withRefs, refsM, setRefs, List.getD_eq_getElem?_getD, hj]
theorem isSl_with (m : Mm) (i k r : Int) : isSl (withRefs m i r) k = isSl m k := by simp [isSl, withRefs, setRefs]
theorem with_with {m : Mm} {i : Int} (hi : isSl m i = true) (r q : Int) : withRefs (withRefs m i r) i q = withRefs m i q := by
  obtain ⟨j, rfl, hj⟩ := (isSl_iff m i).1 hi
  simp [withRefs, setRefs, List.getD_eq_getElem?_getD, hj]
theorem hold_of_with {m : Mm} {i : Int} (hi : isSl m i = true) (r : Int) : holdM (withRefs m i r) i = withRefs m i (r + 1) := by
  show withRefs (withRefs m i r) i (refsM (withRefs m i r) i + 1) = _
  rw [refs_with hi, with_with hi]
theorem put_of_with {m : Mm} {i : Int} (hi : isSl m i = true) (r : Int) (hr : r ≠ 1) : putM (withRefs m i r) i = withRefs m i (r - 1) := by
  have h : putM (withRefs m i r) i = withRefs (withRefs m i r) i (refsM (withRefs m i r) i - 1) := by
    have e := refs_with hi r
    unfold putM
    rw [e, if_neg hr]
    rfl
  rw [h, refs_with hi, with_with hi]




end Go.Proofs.Ytjgcbbakgklniab.mm

/- Chains as plain data: the slots of a chain, whether chains are right, what is mapped, what is linked and cut out; no program text is named here. -/
namespace Go.Proofs.Ytjgcbbakgklniab.mm
set_option linter.unusedVariables false

def nextN (S : List Sl) (n : Int) : Int := (S.getD (n - 1).toNat sl0).next
def walkL (S : List Sl) : Nat → Int → List Int
  | 0, _ => []
  | k + 1, n => if 0 < n then (n - 1) :: walkL S k (nextN S n) else []
def walkE (S : List Sl) : Nat → Int → Int
  | 0, n => n
  | k + 1, n => if 0 < n then walkE S k (nextN S n) else n

def headM (M : Mm) (b : Nat) : Int := M.heads.getD b 0
def chL (M : Mm) (b : Nat) : List Int := walkL M.slots M.slots.length (headM M b)
def chE (M : Mm) (b : Nat) : Int := walkE M.slots M.slots.length (headM M b)
def chOk (M : Mm) (b : Nat) : Bool := chE M b == -1 - (b : Int)
def slotAt (M : Mm) (a : Int) : Sl := M.slots.getD a.toNat sl0
def keyAt (M : Mm) (a : Int) : Int × Int := ((slotAt M a).a, (slotAt M a).b)
def bucket (a b : Int) (n : Nat) : Int := (7 * a + 3 * b + a * b) % n
def hasK (M : Mm) (all : List Int) (k : Int × Int) : Bool := (all.map (keyAt M)).contains k
def whoK (M : Mm) (all : List Int) (k : Int × Int) : Int := (all.find? fun a => keyAt M a == k).getD 0

def slotC (M : Mm) (b : Nat) (all : List Int) (a : Int) : Int :=
  if (slotAt M a).refs = 0 ∨ (slotAt M a).inn = false then 5
  else if bucket (slotAt M a).a (slotAt M a).b M.heads.length ≠ b then 4
  else if hasK M all (keyAt M a) then 6 else 0
def scanC (M : Mm) (b : Nat) : List Int → List Int → Int
  | _, [] => 0
  | all, a :: l => if slotC M b all a ≠ 0 then slotC M b all a else scanC M b (all ++ [a]) l
def chkB (M : Mm) : Nat → Nat → List Int → Int
  | 0, _, _ => 0
  | k + 1, b, all => if chOk M b then (if scanC M b all (chL M b) ≠ 0 then scanC M b all (chL M b) else chkB M k (b + 1) (all ++ chL M b)) else 4
def chkC (M : Mm) : Int := if chk M ≠ 0 then chk M else chkB M M.heads.length 0 []
def allTo (M : Mm) (b : Nat) : List Int := (List.range b).flatMap (chL M)
def allC (M : Mm) : List Int := allTo M M.heads.length

theorem allTo_succ (M : Mm) (b : Nat) : allTo M (b + 1) = allTo M b ++ chL M b := by simp [allTo, List.range_succ]
theorem allTo_zero (M : Mm) : allTo M 0 = [] := rfl

theorem scanC_drop (M : Mm) (b : Nat) (all l : List Int) (k : Nat) (h : k < l.length) :
    scanC M b (all ++ l.take k) (l.drop k) = if slotC M b (all ++ l.take k) l[k] ≠ 0 then slotC M b (all ++ l.take k) l[k] else scanC M b (all ++ l.take (k + 1)) (l.drop (k + 1)) := by
  rw [List.drop_eq_getElem_cons h, List.take_succ_eq_append_getElem h, ← List.append_assoc]; rfl
theorem scanC_end (M : Mm) (b : Nat) (all l : List Int) (k : Nat) (h : l.length ≤ k) : scanC M b (all ++ l.take k) (l.drop k) = 0 := by
  rw [List.drop_of_length_le h]; rfl
theorem chkB_step (M : Mm) (b : Nat) (h : b < M.heads.length) :
    chkB M (M.heads.length - b) b (allTo M b) = if chOk M b then (if scanC M b (allTo M b) (chL M b) ≠ 0 then scanC M b (allTo M b) (chL M b) else chkB M (M.heads.length - (b + 1)) (b + 1) (allTo M (b + 1))) else 4 := by
  rw [show M.heads.length - b = (M.heads.length - (b + 1)) + 1 by omega, allTo_succ]; rfl
theorem chkB_end (M : Mm) (b : Nat) (h : M.heads.length ≤ b) (all : List Int) : chkB M (M.heads.length - b) b all = 0 := by
  rw [show M.heads.length - b = 0 by omega]; rfl

/- What Check's answer 0 says of chains. -/
structure OkC (M : Mm) : Prop where
  ok : Ok M
  ends : ∀ b, b < M.heads.length → chE M b = -1 - (b : Int)
  held : ∀ b, b < M.heads.length → ∀ a ∈ chL M b, (slotAt M a).refs ≠ 0 ∧ (slotAt M a).inn = true ∧ bucket (slotAt M a).a (slotAt M a).b M.heads.length = b
  keys : ((allC M).map (keyAt M)).Nodup

theorem hasK_iff (M : Mm) (all : List Int) (k : Int × Int) : hasK M all k = true ↔ k ∈ all.map (keyAt M) := by simp [hasK]

theorem slotC_zero (M : Mm) (b : Nat) (all : List Int) (a : Int) : slotC M b all a = 0 ↔ ((slotAt M a).refs ≠ 0 ∧ (slotAt M a).inn = true ∧ bucket (slotAt M a).a (slotAt M a).b M.heads.length = b) ∧ ¬ keyAt M a ∈ all.map (keyAt M) := by
  unfold slotC
  rw [← hasK_iff]
  by_cases h1 : (slotAt M a).refs = 0 ∨ (slotAt M a).inn = false
  · rw [if_pos h1]
    constructor
    · intro h; omega
    · rintro ⟨⟨h, h', _⟩, _⟩
      rcases h1 with h1 | h1
      · exact absurd h1 h
      · rw [h'] at h1; cases h1
  rw [if_neg h1]
  have h1' : (slotAt M a).refs ≠ 0 ∧ (slotAt M a).inn = true := by
    refine ⟨fun h => h1 (.inl h), ?_⟩
    cases h : (slotAt M a).inn
    · exact absurd (.inr h) h1
    · rfl
  by_cases h2 : bucket (slotAt M a).a (slotAt M a).b M.heads.length = b
  · rw [if_neg (by simpa using h2)]
    cases h3 : hasK M all (keyAt M a)
    · simp [h1', h2]
    · simp
  · rw [if_pos h2]
    constructor
    · intro h; omega
    · rintro ⟨⟨_, _, h⟩, _⟩; exact absurd h h2

theorem scanC_zero (M : Mm) (b : Nat) (l : List Int) : ∀ all : List Int, (all.map (keyAt M)).Nodup → (scanC M b all l = 0 ↔ (∀ a ∈ l, (slotAt M a).refs ≠ 0 ∧ (slotAt M a).inn = true ∧ bucket (slotAt M a).a (slotAt M a).b M.heads.length = b) ∧ ((all ++ l).map (keyAt M)).Nodup) := by
  induction l with
  | nil => intro all h; simp [scanC]; exact h
  | cons a l ih =>
    intro all hn
    simp only [scanC]
    by_cases h : slotC M b all a = 0
    · rw [if_neg (by simpa using h)]
      have h' := (slotC_zero M b all a).1 h
      have hn' : ((all ++ [a]).map (keyAt M)).Nodup := by
        rw [List.map_append, List.nodup_append]
        refine ⟨hn, by simp, ?_⟩
        intro x hx y hy e
        simp at hy
        subst hy
        subst e
        exact h'.2 hx
      rw [ih (all ++ [a]) hn', List.append_assoc]
      simp only [List.mem_cons, forall_eq_or_imp, List.cons_append, List.nil_append]
      constructor
      · rintro ⟨h1, h2⟩; exact ⟨⟨h'.1, h1⟩, h2⟩
      · rintro ⟨⟨_, h1⟩, h2⟩; exact ⟨h1, h2⟩
    · rw [if_pos h]
      constructor
      · intro hh; exact absurd hh h
      · rintro ⟨h1, h2⟩
        exfalso
        apply h
        rw [slotC_zero]
        refine ⟨h1 a (by simp), fun hm => ?_⟩
        rw [List.map_append, List.nodup_append] at h2
        exact h2.2.2 _ hm _ (by simp) rfl

theorem chOk_iff (M : Mm) (b : Nat) : chOk M b = true ↔ chE M b = -1 - (b : Int) := by simp [chOk]

theorem chkB_zero (M : Mm) : ∀ (k b : Nat), b + k = M.heads.length → ((allTo M b).map (keyAt M)).Nodup →
    (chkB M k b (allTo M b) = 0 ↔ (∀ c, b ≤ c → c < M.heads.length → chE M c = -1 - (c : Int) ∧ ∀ a ∈ chL M c, (slotAt M a).refs ≠ 0 ∧ (slotAt M a).inn = true ∧ bucket (slotAt M a).a (slotAt M a).b M.heads.length = c) ∧ ((allC M).map (keyAt M)).Nodup)
  | 0, b, hb, hn => by
    have : b = M.heads.length := by omega
    subst this
    simp only [chkB, true_iff]
    exact ⟨fun c h1 h2 => by omega, hn⟩
  | k + 1, b, hb, hn => by
    simp only [chkB]
    cases hc : chOk M b
    · simp only [Bool.false_eq_true, if_false]
      constructor
      · intro h; omega
      · rintro ⟨h, _⟩
        have := (chOk_iff M b).2 (h b (Nat.le_refl _) (by omega)).1
        rw [hc] at this; cases this
    · have hc' := (chOk_iff M b).1 hc
      simp only [if_true]
      have hs := scanC_zero M b (chL M b) (allTo M b) hn
      rw [← allTo_succ] at hs ⊢
      by_cases h : scanC M b (allTo M b) (chL M b) = 0
      · rw [if_neg (by simpa using h)]
        have h' := hs.1 h
        rw [chkB_zero M k (b + 1) (by omega) h'.2]
        constructor
        · rintro ⟨h1, h2⟩
          refine ⟨fun c hc1 hc2 => ?_, h2⟩
          by_cases e : c = b
          · subst e; exact ⟨hc', h'.1⟩
          · exact h1 c (by omega) hc2
        · rintro ⟨h1, h2⟩
          exact ⟨fun c hc1 hc2 => h1 c (by omega) hc2, h2⟩
      · rw [if_pos h]
        constructor
        · intro hh; exact absurd hh h
        · rintro ⟨h1, h2⟩
          exfalso
          apply h
          rw [hs]
          refine ⟨(h1 b (Nat.le_refl _) (by omega)).2, ?_⟩
          have e : allC M = allTo M (b + 1) ++ ((List.range (M.heads.length - (b + 1))).map (· + (b + 1))).flatMap (chL M) := by
            unfold allC allTo
            rw [← List.flatMap_append]
            congr 1
            rw [show M.heads.length = (b + 1) + (M.heads.length - (b + 1)) by omega, List.range_add]
            simp [Nat.add_comm]
          rw [e, List.map_append, List.nodup_append] at h2
          exact h2.1

theorem chkC_zero (M : Mm) : chkC M = 0 ↔ OkC M := by
  unfold chkC
  by_cases h : chk M = 0
  · rw [if_neg (by simpa using h), show ([] : List Int) = allTo M 0 from rfl, chkB_zero M M.heads.length 0 (by omega) (by simp [allTo])]
    constructor
    · rintro ⟨h1, h2⟩
      exact ⟨(chk_zero M).1 h, fun b hb => (h1 b (Nat.zero_le _) hb).1, fun b hb => (h1 b (Nat.zero_le _) hb).2, h2⟩
    · rintro ⟨_, h1, h2, h3⟩
      exact ⟨fun c _ hc => ⟨h1 c hc, h2 c hc⟩, h3⟩
  · rw [if_pos h]
    constructor
    · intro hh; exact absurd hh h
    · intro hh; exact absurd ((chk_zero M).2 hh.ok) h




end Go.Proofs.Ytjgcbbakgklniab.mm

/- What is linked and cut out, as plain data: chains stay right, and which slots are in them. -/
namespace Go.Proofs.Ytjgcbbakgklniab.mm
set_option linter.unusedVariables false

def ownB (M : Mm) (a : Int) : Nat := (bucket (slotAt M a).a (slotAt M a).b M.heads.length).toNat
def linkM (M : Mm) (a : Int) : Mm := { M with slots := M.slots.set a.toNat { slotAt M a with next := headM M (ownB M a), inn := true }, heads := M.heads.set (ownB M a) (a + 1) }
def linkE (M : Mm) (a : Int) : Int := if chkC M ≠ 0 then chkC M else if isSl M a = false then 5 else if refsM M a = 0 then 8 else if hasK M (allC M) (keyAt M a) then 6 else 0
def linkedM (M : Mm) (a : Int) : Mm := if linkE M a = 0 then linkM M a else m0

def aheadF (a : Int) : List Int → Int → Int → Int
  | [], ah, _ => ah
  | c :: l, ah, la => aheadF a l (if c == a then la else ah) (c + 1)
def prevF (a : Int) : List Int → Int → Int
  | [], p => p
  | c :: l, p => if c == a then p else prevF a l (c + 1)
def cutM (M : Mm) (b : Nat) (ahead a : Int) : Mm :=
  if 0 < ahead then { M with slots := M.slots.set (ahead - 1).toNat { slotAt M (ahead - 1) with next := (slotAt M a).next } } else { M with heads := M.heads.set b (slotAt M a).next }
def keyN (M : Mm) (ka kb : Int) : Nat := (bucket ka kb M.heads.length).toNat
def withoutE (M : Mm) (ka kb : Int) : Int := if chkC M ≠ 0 then chkC M else if keyB ka kb = false then 3 else if hasK M (allC M) (ka, kb) = false then 5 else 0
def withoutN (M : Mm) (ka kb : Int) : Int := if withoutE M ka kb = 0 then whoK M (allC M) (ka, kb) else 0
def cutK (M : Mm) (ka kb : Int) : Mm := cutM M (keyN M ka kb) (aheadF (whoK M (allC M) (ka, kb)) (chL M (keyN M ka kb)) 0 0) (whoK M (allC M) (ka, kb))
def withoutM (M : Mm) (ka kb : Int) : Mm := if withoutE M ka kb = 0 then cutK M ka kb else m0

/- A way from a number along slots to an end. -/
def Path (S : List Sl) : Int → List Int → Int → Prop
  | n, [], e => n = e ∧ n ≤ 0
  | n, a :: l, e => n = a + 1 ∧ 0 ≤ a ∧ Path S (S.getD a.toNat sl0).next l e

theorem walk_path (S : List Sl) : ∀ (k : Nat) (n : Int), walkE S k n ≤ 0 → Path S n (walkL S k n) (walkE S k n) ∧ (walkL S k n).length ≤ k
  | 0, n, h => ⟨⟨rfl, h⟩, by simp [walkL]⟩
  | k + 1, n, h => by
    simp only [walkE, walkL] at h ⊢
    by_cases hn : 0 < n
    · rw [if_pos hn] at h
      rw [if_pos hn, if_pos hn]
      have := walk_path S k _ h
      exact ⟨⟨by omega, by omega, this.1⟩, by simpa using this.2⟩
    · rw [if_neg hn] at h
      rw [if_neg hn, if_neg hn]
      exact ⟨⟨rfl, h⟩, by simp⟩
theorem path_walk (S : List Sl) : ∀ (k : Nat) (n : Int) (l : List Int) (e : Int), Path S n l e → l.length ≤ k → walkL S k n = l ∧ walkE S k n = e
  | k, n, [], e, h, hl => by
    obtain ⟨rfl, h⟩ := h
    cases k with
    | zero => exact ⟨rfl, rfl⟩
    | succ k => simp only [walkE, walkL]; rw [if_neg (by omega), if_neg (by omega)]; exact ⟨rfl, rfl⟩
  | 0, n, a :: l, e, h, hl => by simp at hl
  | k + 1, n, a :: l, e, h, hl => by
    obtain ⟨rfl, h0, h⟩ := h
    have := path_walk S k _ l e h (by simpa using hl)
    simp only [walkE, walkL, nextN]
    rw [if_pos (by omega), if_pos (by omega), show a + 1 - 1 = a by omega]
    rw [this.1, this.2]
    exact ⟨rfl, rfl⟩
theorem path_end {S : List Sl} : ∀ {n : Int} {l : List Int} {e : Int}, Path S n l e → e ≤ 0
  | _, [], _, h => by obtain ⟨rfl, h⟩ := h; exact h
  | _, _ :: _, _, h => path_end h.2.2
theorem path_congr {S S' : List Sl} : ∀ {n : Int} {l : List Int} {e : Int}, (∀ a ∈ l, (S'.getD a.toNat sl0).next = (S.getD a.toNat sl0).next) → Path S n l e → Path S' n l e
  | _, [], _, _, h => h
  | _, a :: l, _, hh, h => by
    refine ⟨h.1, h.2.1, ?_⟩
    rw [hh a (by simp)]
    exact path_congr (fun x hx => hh x (by simp [hx])) h.2.2
/- A way to a number. -/
def PathTo (S : List Sl) : Int → List Int → Int → Prop
  | n, [], e => n = e
  | n, a :: l, e => n = a + 1 ∧ 0 ≤ a ∧ PathTo S (S.getD a.toNat sl0).next l e
theorem path_app {S : List Sl} : ∀ {n : Int} {l1 l2 : List Int} {e : Int}, Path S n (l1 ++ l2) e ↔ ∃ m, PathTo S n l1 m ∧ Path S m l2 e
  | n, [], l2, e => by simp [PathTo]
  | n, a :: l1, l2, e => by
    simp only [List.cons_append, Path, PathTo, path_app (l1 := l1)]
    constructor
    · rintro ⟨h1, h2, m, h3, h4⟩; exact ⟨m, ⟨h1, h2, h3⟩, h4⟩
    · rintro ⟨m, ⟨h1, h2, h3⟩, h4⟩; exact ⟨h1, h2, m, h3, h4⟩
theorem pathTo_snoc {S : List Sl} : ∀ {n : Int} {l : List Int} {p e : Int}, PathTo S n (l ++ [p]) e ↔ PathTo S n l (p + 1) ∧ 0 ≤ p ∧ (S.getD p.toNat sl0).next = e
  | n, [], p, e => by simp [PathTo]
  | n, a :: l, p, e => by
    simp only [List.cons_append, PathTo, pathTo_snoc (l := l)]
    constructor
    · rintro ⟨h1, h2, h3, h4⟩; exact ⟨⟨h1, h2, h3⟩, h4⟩
    · rintro ⟨⟨h1, h2, h3⟩, h4⟩; exact ⟨h1, h2, h3, h4⟩
theorem pathTo_congr {S S' : List Sl} : ∀ {n : Int} {l : List Int} {e : Int}, (∀ a ∈ l, (S'.getD a.toNat sl0).next = (S.getD a.toNat sl0).next) → PathTo S n l e → PathTo S' n l e
  | _, [], _, _, h => h
  | _, a :: l, _, hh, h => by
    refine ⟨h.1, h.2.1, ?_⟩
    rw [hh a (by simp)]
    exact pathTo_congr (fun x hx => hh x (by simp [hx])) h.2.2
theorem path_nonneg {S : List Sl} : ∀ {n : Int} {l : List Int} {e : Int}, Path S n l e → ∀ a ∈ l, 0 ≤ a
  | _, [], _, _, _, ha => by cases ha
  | _, x :: l, _, h, a, ha => by
    rcases List.mem_cons.1 ha with rfl | ha
    · exact h.2.1
    · exact path_nonneg h.2.2 a ha
/- Where each number that stands is one that may stand, each slot of a way is one. -/
theorem path_lt {S : List Sl} {N : Nat} (hs : ∀ s ∈ S, s.next ≤ N) (h0 : (0 : Int) ≤ N) : ∀ {n : Int} {l : List Int} {e : Int}, n ≤ N → Path S n l e → ∀ a ∈ l, a < N
  | _, [], _, _, _, _, ha => by cases ha
  | n, x :: l, _, hn, h, a, ha => by
    rcases List.mem_cons.1 ha with rfl | ha
    · have := h.1; omega
    · refine path_lt hs h0 (n := (S.getD x.toNat sl0).next) ?_ h.2.2 a ha
      by_cases hx : x.toNat < S.length
      · rw [getD_lt S _ hx]; exact hs _ (List.getElem_mem hx)
      · rw [List.getD_eq_getElem?_getD, List.getElem?_eq_none (by omega)]; exact h0

theorem few' : ∀ (n : Nat) (l : List Int), l.Nodup → (∀ a ∈ l, 0 ≤ a ∧ a < n) → l.length ≤ n
  | 0, l, hn, h => by
    match l, h with
    | [], _ => simp
    | a :: _, h => have := h a (by simp); omega
  | n + 1, l, hn, h => by
    have h1 := few' n (l.erase (n : Int)) (hn.erase _) (fun a ha => by
      have h3 := (hn.mem_erase_iff).1 ha
      have h4 := h a h3.2
      have h5 := h3.1
      omega)
    rw [List.length_erase] at h1
    split at h1 <;> omega

theorem OkC.path {M : Mm} (h : OkC M) {b : Nat} (hb : b < M.heads.length) : Path M.slots (headM M b) (chL M b) (-1 - (b : Int)) := by
  have e := h.ends b hb
  have := (walk_path M.slots M.slots.length (headM M b) (by show chE M b ≤ 0; omega)).1
  rw [show walkE M.slots M.slots.length (headM M b) = -1 - (b : Int) from e] at this
  exact this
theorem Ok.headIn {M : Mm} (h : Ok M) {b : Nat} (hb : b < M.heads.length) : headM M b ≠ 0 ∧ inB (headM M b) (-(M.heads.length : Int)) M.slots.length = true := by
  have hl : b < M.locks.length := by have := h.nl; omega
  have hz : b < (M.heads.zip M.locks).length := by simp; omega
  have := h.chain _ (List.getElem_mem hz)
  simp only [List.getElem_zip, chainErr] at this
  have e : headM M b = M.heads[b] := by simp [headM, List.getD_eq_getElem?_getD, hb]
  rw [e]
  split at this
  · rename_i hh; exact hh
  · omega
theorem OkC.slots {M : Mm} (h : OkC M) {b : Nat} (hb : b < M.heads.length) : ∀ a ∈ chL M b, 0 ≤ a ∧ a < M.slots.length := by
  intro a ha
  have hp := h.path hb
  refine ⟨path_nonneg hp a ha, path_lt (fun s hs => ?_) (by omega) ?_ hp a ha⟩
  · have := (slot_good (h.ok.slot s hs)).2.2.2
    exact ((inB_iff _ _ _).1 this).2
  · exact ((inB_iff _ _ _).1 (h.ok.headIn hb).2).2
theorem mem_allTo {M : Mm} {n : Nat} {a : Int} : a ∈ allTo M n ↔ ∃ b, b < n ∧ a ∈ chL M b := by simp [allTo]
theorem mem_allC {M : Mm} {a : Int} : a ∈ allC M ↔ ∃ b, b < M.heads.length ∧ a ∈ chL M b := mem_allTo
theorem nodup_of_map {α β : Type} {f : α → β} : ∀ {l : List α}, (l.map f).Nodup → l.Nodup
  | [], _ => by simp
  | a :: l, h => by
    rw [List.map_cons, List.nodup_cons] at h
    rw [List.nodup_cons]
    exact ⟨fun hm => h.1 (List.mem_map_of_mem hm), nodup_of_map h.2⟩
theorem allC_split (M : Mm) {b : Nat} (hb : b < M.heads.length) : ∃ l2, allC M = allTo M b ++ chL M b ++ l2 ∧ l2 = ((List.range (M.heads.length - (b + 1))).map (· + (b + 1))).flatMap (chL M) := by
  refine ⟨_, ?_, rfl⟩
  rw [← allTo_succ]
  unfold allC allTo
  rw [← List.flatMap_append]
  congr 1
  rw [show M.heads.length = (b + 1) + (M.heads.length - (b + 1)) by omega, List.range_add]
  simp [Nat.add_comm]
theorem OkC.nodup {M : Mm} (h : OkC M) {b : Nat} (hb : b < M.heads.length) : (chL M b).Nodup := by
  obtain ⟨l2, e, _⟩ := allC_split M hb
  have := nodup_of_map h.keys
  rw [e, List.nodup_append, List.nodup_append] at this
  exact this.1.2.1
theorem OkC.allSlots {M : Mm} (h : OkC M) : ∀ a ∈ allC M, 0 ≤ a ∧ a < M.slots.length := by
  intro a ha
  obtain ⟨b, hb, hm⟩ := mem_allC.1 ha
  exact h.slots hb a hm




end Go.Proofs.Ytjgcbbakgklniab.mm

/- Where chains are right, what is linked or cut out leaves them right; all other flows stay. -/
namespace Go.Proofs.Ytjgcbbakgklniab.mm
set_option linter.unusedVariables false

theorem bucket_in (a b : Int) {n : Nat} (hn : 1 ≤ n) : 0 ≤ bucket a b n ∧ bucket a b n < n := ⟨Int.emod_nonneg _ (by omega), Int.emod_lt_of_pos _ (by omega)⟩
theorem ownB_lt {M : Mm} (h : Ok M) (a : Int) : ownB M a < M.heads.length := by
  have := bucket_in (slotAt M a).a (slotAt M a).b h.nh.1
  unfold ownB; omega
theorem ownB_eq {M : Mm} (h : Ok M) (a : Int) : (ownB M a : Int) = bucket (slotAt M a).a (slotAt M a).b M.heads.length := by
  have := bucket_in (slotAt M a).a (slotAt M a).b h.nh.1
  unfold ownB; omega

theorem flat_congr {f g : Nat → List Int} : ∀ {l : List Nat}, (∀ c ∈ l, f c = g c) → l.flatMap f = l.flatMap g
  | [], _ => rfl
  | c :: l, h => by
    rw [List.flatMap_cons, List.flatMap_cons, h c (by simp), flat_congr (fun x hx => h x (by simp [hx]))]

/- Memory in which one chain is another, and the rest as it was. -/
theorem allC_turn {M M' : Mm} {b : Nat} (hb : b < M.heads.length) (hl : M'.heads.length = M.heads.length) (h : ∀ c, c < M.heads.length → c ≠ b → chL M' c = chL M c) :
    ∃ l1 l2, allC M = l1 ++ chL M b ++ l2 ∧ allC M' = l1 ++ chL M' b ++ l2 := by
  obtain ⟨x, e, ex⟩ := allC_split M hb
  obtain ⟨y, e', ey⟩ := allC_split M' (b := b) (by omega)
  have h1 : allTo M' b = allTo M b := flat_congr fun c hc => by
    rw [List.mem_range] at hc
    exact h c (by omega) (by omega)
  have h2 : y = x := by
    rw [ex, ey, hl]
    refine flat_congr fun c hc => ?_
    simp only [List.mem_map, List.mem_range] at hc
    obtain ⟨d, hd, rfl⟩ := hc
    exact h _ (by omega) (by omega)
  exact ⟨allTo M b, x, e, by rw [e', h1, h2]⟩

theorem slotAt_set {M : Mm} {S : List Sl} {H : List Int} {j : Nat} {s : Sl} (hj : j < M.slots.length) (hS : S = M.slots.set j s) (x : Int) : slotAt { M with slots := S, heads := H } x = if x.toNat = j then s else slotAt M x := by
  subst hS
  unfold slotAt
  dsimp only
  by_cases e : x.toNat = j
  · rw [if_pos e, e, getD_set_same _ _ _ hj]
  · rw [if_neg e, getD_set_other _ _ _ _ (fun h => e h.symm)]
theorem headM_set {M : Mm} {S : List Sl} {b c : Nat} {n : Int} (hb : b < M.heads.length) : headM { M with slots := S, heads := M.heads.set b n } c = if c = b then n else headM M c := by
  unfold headM
  dsimp only
  by_cases e : c = b
  · subst e; rw [if_pos rfl]; simp [List.getD_eq_getElem?_getD, hb]
  · rw [if_neg e]; simp [List.getD_eq_getElem?_getD, List.getElem?_set_ne (fun h => e h.symm)]

/- The turn of one slot's Next and In, and of one begin. -/
theorem Ok.turn {M : Mm} (h : Ok M) {j b : Nat} (hj : j < M.slots.length) {nx hd : Int} {inn : Bool} (h1 : inB nx (-(M.heads.length : Int)) M.slots.length = true) (h2 : hd ≠ 0 ∧ inB hd (-(M.heads.length : Int)) M.slots.length = true) :
    Ok { M with slots := M.slots.set j { slotAt M j with next := nx, inn := inn }, heads := M.heads.set b hd } := by
  have hs : slotAt M j = M.slots[j] := by simp [slotAt, List.getD_eq_getElem?_getD, hj]
  have hgood := slot_good (h.slot _ (List.getElem_mem hj))
  have hr : ∀ i : Nat, ((M.slots.set j { slotAt M j with next := nx, inn := inn }).getD i sl0).refs = (M.slots.getD i sl0).refs := fun i => by
    by_cases e : j = i
    · subst e; rw [getD_set_same _ _ _ hj]; rfl
    · rw [getD_set_other _ _ _ _ e]
  refine ⟨by simpa using h.ns, by simpa using h.nh, by simpa using h.nl, h.now, ?_, ?_, ?_, h.nodup, ?_⟩
  · intro x hx
    dsimp only at hx ⊢
    rw [List.length_set, List.length_set]
    rcases List.mem_or_eq_of_mem_set hx with hx | rfl
    · exact h.slot x hx
    · rw [hs]
      exact good_slot hgood.1 hgood.2.1 hgood.2.2.1 h1
  · intro p hp
    dsimp only at hp ⊢
    rw [List.length_set, List.length_set]
    obtain ⟨i, hi, rfl⟩ := List.getElem_of_mem hp
    have hi' : i < (M.heads.zip M.locks).length := by simpa using hi
    have := h.chain _ (List.getElem_mem hi')
    rw [List.getElem_zip] at this ⊢
    rw [List.getElem_set]
    unfold chainErr at this ⊢
    dsimp only at this ⊢
    by_cases e : b = i
    · rw [if_pos e, if_pos h2]
      split at this
      · exact this
      · omega
    · rw [if_neg e]; exact this
  · intro a ha
    have := (freeOk_iff _ _).1 (h.free a ha)
    rw [freeOk_iff]
    refine ⟨this.1, by simpa using this.2.1, ?_⟩
    rw [hr]; exact this.2.2
  · intro i hi hr'
    dsimp only at hi hr'
    rw [hr] at hr'
    exact h.all i (by simpa using hi) hr'

structure Linked (M M' : Mm) (a : Int) (b : Nat) : Prop where
  okc : OkC M'
  nh : M'.heads.length = M.heads.length
  ns : M'.slots.length = M.slots.length
  at_ : chL M' b = a :: chL M b
  else_ : ∀ c, c < M.heads.length → c ≠ b → chL M' c = chL M c
  key : ∀ x, keyAt M' x = keyAt M x
  unt : ∀ x, (slotAt M' x).unt = (slotAt M x).unt
  refs : ∀ x, (slotAt M' x).refs = (slotAt M x).refs

theorem link_ok {M : Mm} (h : OkC M) {a : Int} (ha : isSl M a = true) (hr : refsM M a ≠ 0) (hk : hasK M (allC M) (keyAt M a) = false) : Linked M (linkM M a) a (ownB M a) := by
  obtain ⟨j, rfl, hj⟩ := (isSl_iff M a).1 ha
  have hb := ownB_lt h.ok j
  have hbe := ownB_eq h.ok j
  have hhd := h.ok.headIn hb
  have hnk : ¬ keyAt M j ∈ (allC M).map (keyAt M) := fun hm => by rw [(hasK_iff M _ _).2 hm] at hk; cases hk
  have hna : ¬ (j : Int) ∈ allC M := fun hm => hnk (List.mem_map_of_mem hm)
  have hok : Ok (linkM M j) := h.ok.turn (b := ownB M j) hj hhd.2 ⟨by omega, by rw [inB_iff]; omega⟩
  have hsl : ∀ x, slotAt (linkM M j) x = if x.toNat = j then { slotAt M j with next := headM M (ownB M j), inn := true } else slotAt M x := fun x => slotAt_set (j := j) hj rfl x
  have hsx : ∀ x : Int, x.toNat = j → slotAt M x = slotAt M j := fun x hx => by unfold slotAt; rw [hx, Int.toNat_natCast]
  have key : ∀ x, keyAt (linkM M j) x = keyAt M x := fun x => by
    unfold keyAt; rw [hsl]; split
    · rename_i e; rw [hsx x e]
    · rfl
  have unt : ∀ x, (slotAt (linkM M j) x).unt = (slotAt M x).unt := fun x => by
    rw [hsl]; split
    · rename_i e; rw [hsx x e]
    · rfl
  have refs : ∀ x, (slotAt (linkM M j) x).refs = (slotAt M x).refs := fun x => by
    rw [hsl]; split
    · rename_i e; rw [hsx x e]
    · rfl
  have hhead : ∀ c, headM (linkM M j) c = if c = ownB M j then (j : Int) + 1 else headM M c := fun c => headM_set hb
  have nh : (linkM M j).heads.length = M.heads.length := by simp [linkM]
  have ns : (linkM M j).slots.length = M.slots.length := by simp [linkM]
  have cong : ∀ c, c < M.heads.length → Path (linkM M j).slots (headM M c) (chL M c) (-1 - (c : Int)) := fun c hc => by
    refine path_congr (fun x hx => ?_) (h.path hc)
    have := hsl x
    have hx0 := h.slots hc x hx
    have hne : x.toNat ≠ j := fun e => hna (mem_allC.2 ⟨c, hc, by rw [show (j : Int) = x by omega]; exact hx⟩)
    rw [if_neg hne] at this
    unfold slotAt at this
    rw [this]
  have other : ∀ c, c < M.heads.length → c ≠ ownB M j → chL (linkM M j) c = chL M c ∧ chE (linkM M j) c = -1 - (c : Int) := fun c hc hne => by
    have hw := (walk_path M.slots M.slots.length (headM M c) (by show chE M c ≤ 0; have := h.ends c hc; omega)).2
    have := path_walk _ M.slots.length _ _ _ (cong c hc) hw
    unfold chL chE
    rw [hhead, if_neg hne, ns]
    exact this
  have own : chL (linkM M j) (ownB M j) = (j : Int) :: chL M (ownB M j) ∧ chE (linkM M j) (ownB M j) = -1 - (ownB M j : Int) := by
    have hp : Path (linkM M j).slots ((j : Int) + 1) ((j : Int) :: chL M (ownB M j)) (-1 - (ownB M j : Int)) := by
      refine ⟨rfl, by omega, ?_⟩
      have := hsl j
      rw [if_pos (Int.toNat_natCast j)] at this
      unfold slotAt at this
      rw [this]
      exact cong _ hb
    have hlen : ((j : Int) :: chL M (ownB M j)).length ≤ M.slots.length := by
      refine few' _ _ ?_ ?_
      · rw [List.nodup_cons]
        exact ⟨fun hm => hna (mem_allC.2 ⟨_, hb, hm⟩), h.nodup hb⟩
      · intro x hx
        rcases List.mem_cons.1 hx with rfl | hx
        · omega
        · exact h.slots hb x hx
    have := path_walk _ M.slots.length _ _ _ hp hlen
    unfold chL chE
    rw [hhead, if_pos rfl, ns]
    exact this
  obtain ⟨l1, l2, e1, e2⟩ := allC_turn hb nh (fun c hc hne => (other c hc hne).1)
  refine ⟨⟨hok, ?_, ?_, ?_⟩, nh, ns, own.1, fun c hc hne => (other c hc hne).1, key, unt, refs⟩
  · intro c hc
    rw [nh] at hc
    by_cases e : c = ownB M j
    · subst e; exact own.2
    · exact (other c hc e).2
  · intro c hc x hx
    rw [nh] at hc ⊢
    have inn : ∀ x, (slotAt M x).inn = true → (slotAt (linkM M j) x).inn = true := fun x hh => by
      rw [hsl]; split
      · rfl
      · exact hh
    have bk : ∀ x, bucket (slotAt (linkM M j) x).a (slotAt (linkM M j) x).b M.heads.length = bucket (slotAt M x).a (slotAt M x).b M.heads.length := fun x => by
      have := key x
      unfold keyAt at this
      injection this with t1 t2
      rw [t1, t2]
    by_cases e : c = ownB M j
    · subst e
      rw [own.1] at hx
      rcases List.mem_cons.1 hx with rfl | hx
      · refine ⟨by rw [refs]; exact hr, ?_, by rw [bk, ← hbe]⟩
        rw [hsl, if_pos (Int.toNat_natCast j)]
      · have := h.held _ hb x hx
        exact ⟨by rw [refs]; exact this.1, inn x this.2.1, by rw [bk]; exact this.2.2⟩
    · rw [(other c hc e).1] at hx
      have := h.held _ hc x hx
      exact ⟨by rw [refs]; exact this.1, inn x this.2.1, by rw [bk]; exact this.2.2⟩
  · rw [show keyAt (linkM M j) = keyAt M from funext key, e2, own.1]
    have hk2 := h.keys
    rw [e1] at hk2
    have hp : (l1 ++ (j : Int) :: chL M (ownB M j) ++ l2).Perm ((j : Int) :: (l1 ++ chL M (ownB M j) ++ l2)) := by
      simp only [List.append_assoc, List.cons_append]
      exact List.perm_middle
    rw [(hp.map _).nodup_iff, List.map_cons, List.nodup_cons]
    exact ⟨by rw [← e1]; exact hnk, hk2⟩

theorem linkE_zero {M : Mm} {a : Int} (h : linkE M a = 0) : OkC M ∧ isSl M a = true ∧ refsM M a ≠ 0 ∧ hasK M (allC M) (keyAt M a) = false := by
  unfold linkE at h
  by_cases h1 : chkC M = 0
  · rw [if_neg (by simpa using h1)] at h
    cases h2 : isSl M a
    · rw [h2] at h; simp at h
    rw [if_neg (by rw [h2]; simp)] at h
    by_cases h3 : refsM M a = 0
    · rw [if_pos h3] at h; omega
    rw [if_neg h3] at h
    cases h4 : hasK M (allC M) (keyAt M a)
    · exact ⟨(chkC_zero M).1 h1, rfl, h3, rfl⟩
    · rw [h4] at h; simp at h
  · rw [if_pos h1] at h; exact absurd h h1
theorem linkE_of {M : Mm} {a : Int} (h : OkC M) (h1 : isSl M a = true) (h2 : refsM M a ≠ 0) (h3 : hasK M (allC M) (keyAt M a) = false) : linkE M a = 0 := by
  unfold linkE
  rw [if_neg (by simpa using (chkC_zero M).2 h), if_neg (by rw [h1]; simp), if_neg h2, h3]; rfl

theorem linked_perm {M M' : Mm} {a : Int} {b : Nat} (hb : b < M.heads.length) (L : Linked M M' a b) : (allC M').Perm (a :: allC M) := by
  obtain ⟨l1, l2, e1, e2⟩ := allC_turn hb L.nh L.else_
  rw [e2, L.at_, e1]
  simp only [List.append_assoc, List.cons_append]
  exact List.perm_middle

/- What is ahead of one in a list. -/
def lastN (l : List Int) : Int := match l.getLast? with | none => 0 | some p => p + 1
theorem lastN_snoc (l : List Int) (c : Int) : lastN (l ++ [c]) = c + 1 := by simp [lastN]
theorem ahead_none {a : Int} : ∀ {l : List Int} {ah la : Int}, ¬ a ∈ l → aheadF a l ah la = ah
  | [], _, _, _ => rfl
  | c :: l, ah, la, h => by
    simp only [List.mem_cons, not_or] at h
    simp only [aheadF]
    rw [if_neg (by simpa using fun e => h.1 (Eq.symm e))]
    exact ahead_none h.2
theorem ahead_at {a : Int} : ∀ {l1 l2 : List Int} {ah la : Int}, ¬ a ∈ l1 → ¬ a ∈ l2 → aheadF a (l1 ++ a :: l2) ah la = match l1.getLast? with | none => la | some p => p + 1
  | [], l2, ah, la, _, h => by simp only [List.nil_append, aheadF]; rw [if_pos (by simp)]; exact ahead_none h
  | c :: l, l2, ah, la, h, h' => by
    simp only [List.mem_cons, not_or] at h
    simp only [List.cons_append, aheadF]
    rw [if_neg (by simpa using fun e => h.1 (Eq.symm e)), ahead_at h.2 h']
    cases l with
    | nil => rfl
    | cons d l => simp [List.getLast?_cons]
theorem prev_at {a : Int} : ∀ {l1 l2 : List Int} {p : Int}, ¬ a ∈ l1 → prevF a (l1 ++ a :: l2) p = match l1.getLast? with | none => p | some q => q + 1
  | [], l2, p, _ => by simp [prevF]
  | c :: l, l2, p, h => by
    simp only [List.mem_cons, not_or] at h
    simp only [List.cons_append, prevF]
    rw [if_neg (by simpa using fun e => h.1 (Eq.symm e)), prev_at h.2]
    cases l with
    | nil => rfl
    | cons d l => simp [List.getLast?_cons]

theorem whoK_mem {M : Mm} {all : List Int} {k : Int × Int} (h : hasK M all k = true) : whoK M all k ∈ all ∧ keyAt M (whoK M all k) = k := by
  rw [hasK_iff, List.mem_map] at h
  obtain ⟨a, ha, hk⟩ := h
  unfold whoK
  cases hf : all.find? fun a => keyAt M a == k with
  | none =>
    rw [List.find?_eq_none] at hf
    have := hf a ha
    simp [hk] at this
  | some x =>
    have h1 := List.mem_of_find?_eq_some hf
    have h2 := List.find?_some hf
    exact ⟨h1, by simpa using h2⟩

structure Cutted (M M' : Mm) (a : Int) (b : Nat) : Prop where
  okc : OkC M'
  nh : M'.heads.length = M.heads.length
  ns : M'.slots.length = M.slots.length
  at_ : ∃ l1 l2, chL M b = l1 ++ a :: l2 ∧ chL M' b = l1 ++ l2
  else_ : ∀ c, c < M.heads.length → c ≠ b → chL M' c = chL M c
  key : ∀ x, keyAt M' x = keyAt M x
  unt : ∀ x, (slotAt M' x).unt = (slotAt M x).unt
  refs : ∀ x, (slotAt M' x).refs = (slotAt M x).refs

theorem cut_ok {M : Mm} (h : OkC M) {b : Nat} (hb : b < M.heads.length) {a : Int} (ha : a ∈ chL M b) : Cutted M (cutM M b (aheadF a (chL M b) 0 0) a) a b := by
  obtain ⟨l1, l2, hl⟩ := List.append_of_mem ha
  have hnd := h.nodup hb
  rw [hl, List.nodup_append, List.nodup_cons] at hnd
  have na1 : ¬ a ∈ l1 := fun hm => hnd.2.2 a hm a (by simp) rfl
  have na2 := hnd.2.1.1
  have hah : aheadF a (chL M b) 0 0 = lastN l1 := by rw [hl, ahead_at na1 na2]; rfl
  have ha0 := h.slots hb a ha
  have hsa : slotAt M a = M.slots[a.toNat]'(by omega) := by simp [slotAt, List.getD_eq_getElem?_getD, show a.toNat < M.slots.length by omega]
  have hnx : inB (slotAt M a).next (-(M.heads.length : Int)) M.slots.length = true := by
    rw [hsa]; exact (slot_good (h.ok.slot _ (List.getElem_mem _))).2.2.2
  have hpath := h.path hb
  rw [hl, path_app] at hpath
  obtain ⟨m, hp1, hm, -, hp2⟩ := hpath
  have hp2' : Path M.slots (slotAt M a).next l2 (-1 - (b : Int)) := hp2
  have hlen : ∀ c, c < M.heads.length → (chL M c).length ≤ M.slots.length := fun c hc => (walk_path M.slots M.slots.length (headM M c) (by show chE M c ≤ 0; have := h.ends c hc; omega)).2
  have apart : ∀ c, c < M.heads.length → c ≠ b → ∀ x, x ∈ chL M b → ¬ x ∈ chL M c := fun c hc hne x hx hx' => by
    have := (h.held b hb x hx).2.2
    have := (h.held c hc x hx').2.2
    omega
  -- what is asked of a memory that is so changed
  have fin : ∀ M' : Mm, Ok M' → M'.heads.length = M.heads.length → M'.slots.length = M.slots.length → (∀ x, keyAt M' x = keyAt M x) → (∀ x, (slotAt M' x).unt = (slotAt M x).unt) → (∀ x, (slotAt M' x).refs = (slotAt M x).refs) → (∀ x, (slotAt M' x).inn = (slotAt M x).inn) →
      Path M'.slots (headM M' b) (l1 ++ l2) (-1 - (b : Int)) → (∀ c, c < M.heads.length → c ≠ b → Path M'.slots (headM M' c) (chL M c) (-1 - (c : Int))) → Cutted M M' a b := by
    intro M' hok nh ns key unt refs inn pb pc
    have own : chL M' b = l1 ++ l2 ∧ chE M' b = -1 - (b : Int) := by
      unfold chL chE
      rw [ns]
      refine path_walk _ _ _ _ _ pb ?_
      have := hlen b hb
      rw [hl] at this
      simp only [List.length_append, List.length_cons] at this ⊢
      omega
    have other : ∀ c, c < M.heads.length → c ≠ b → chL M' c = chL M c ∧ chE M' c = -1 - (c : Int) := fun c hc hne => by
      have := path_walk _ M.slots.length _ _ _ (pc c hc hne) (hlen c hc)
      unfold chL chE
      rw [ns]
      exact this
    obtain ⟨k1, k2, e1, e2⟩ := allC_turn hb nh (fun c hc hne => (other c hc hne).1)
    refine ⟨⟨hok, ?_, ?_, ?_⟩, nh, ns, ⟨l1, l2, hl, own.1⟩, fun c hc hne => (other c hc hne).1, key, unt, refs⟩
    · intro c hc
      rw [nh] at hc
      by_cases e : c = b
      · subst e; exact own.2
      · exact (other c hc e).2
    · intro c hc x hx
      rw [nh] at hc ⊢
      have hx' : x ∈ chL M c := by
        by_cases e : c = b
        · subst e
          rw [own.1] at hx
          rw [hl]
          rcases List.mem_append.1 hx with hx | hx
          · simp [hx]
          · simp [hx]
        · rw [← (other c hc e).1]; exact hx
      have := h.held _ hc x hx'
      have hk := key x
      unfold keyAt at hk
      injection hk with t1 t2
      exact ⟨by rw [refs]; exact this.1, by rw [inn]; exact this.2.1, by rw [t1, t2]; exact this.2.2⟩
    · rw [show keyAt M' = keyAt M from funext key, e2, own.1]
      have hk2 := h.keys
      rw [e1, hl] at hk2
      have hp : (k1 ++ (l1 ++ a :: l2) ++ k2).Perm (a :: (k1 ++ (l1 ++ l2) ++ k2)) := by
        have : k1 ++ (l1 ++ a :: l2) ++ k2 = (k1 ++ l1) ++ a :: (l2 ++ k2) := by simp
        rw [this]
        refine List.perm_middle.trans ?_
        simp
      rw [(hp.map _).nodup_iff, List.map_cons, List.nodup_cons] at hk2
      exact hk2.2
  rw [hah]
  rcases (show l1 = [] ∨ ∃ l' p, l1 = l' ++ [p] by
      rcases List.eq_nil_or_concat l1 with h1 | ⟨l', p, h1⟩
      · exact .inl h1
      · exact .inr ⟨l', p, by rw [h1, List.concat_eq_append]⟩) with rfl | ⟨l', p, rfl⟩
  · rw [show lastN [] = 0 from rfl]
    unfold cutM
    rw [if_neg (by omega)]
    have hq : headM M b = m := hp1
    refine fin _ ?_ (by simp) rfl (fun _ => rfl) (fun _ => rfl) (fun _ => rfl) (fun _ => rfl) ?_ ?_
    · have hn0 : (slotAt M a).next ≠ 0 := by
        intro h0
        rw [h0] at hp2'
        cases l2 with
        | nil => have := hp2'.1; omega
        | cons x l => have := hp2'.1; have := hp2'.2.1; omega
      have := h.ok.turn (j := a.toNat) (b := b) (inn := (slotAt M a).inn) (by omega) hnx ⟨hn0, hnx⟩
      have he : M.slots.set a.toNat { slotAt M (a.toNat : Int) with next := (slotAt M a).next, inn := (slotAt M a).inn } = M.slots := by
        rw [show ((a.toNat : Nat) : Int) = a by omega]
        show M.slots.set a.toNat (slotAt M a) = _
        rw [hsa, List.set_getElem_self]
      rw [he] at this
      exact this
    · have := headM_set (M := M) (S := M.slots) (b := b) (c := b) (n := (slotAt M a).next) hb
      rw [if_pos rfl] at this
      show Path M.slots (headM { M with heads := M.heads.set b (slotAt M a).next } b) _ _
      rw [show headM { M with heads := M.heads.set b (slotAt M a).next } b = (slotAt M a).next from this]
      exact hp2'
    · intro c hc hne
      have := headM_set (M := M) (S := M.slots) (b := b) (c := c) (n := (slotAt M a).next) hb
      rw [if_neg hne] at this
      show Path M.slots (headM { M with heads := M.heads.set b (slotAt M a).next } c) _ _
      rw [show headM { M with heads := M.heads.set b (slotAt M a).next } c = headM M c from this]
      exact h.path hc
  · rw [lastN_snoc]
    rw [pathTo_snoc] at hp1
    have hpm : p ∈ chL M b := by rw [hl]; simp
    have hp0 := h.slots hb p hpm
    unfold cutM
    rw [if_pos (by omega), show p + 1 - 1 = p by omega]
    have hjp : p.toNat < M.slots.length := by omega
    have hsl : ∀ x, slotAt { M with slots := M.slots.set p.toNat { slotAt M p with next := (slotAt M a).next } } x = if x.toNat = p.toNat then { slotAt M p with next := (slotAt M a).next } else slotAt M x := fun x => slotAt_set (H := M.heads) hjp rfl x
    have hsx : ∀ x : Int, x.toNat = p.toNat → slotAt M x = slotAt M p := fun x hx => by unfold slotAt; rw [hx]
    have hpn : ¬ p ∈ l' := by
      intro hm
      rw [List.nodup_append] at hnd
      exact hnd.1.2.2 p hm p (by simp) rfl
    have hpn2 : ¬ p ∈ l2 := fun hm => hnd.2.2 p (by simp) p (by simp [hm]) rfl
    have nxt : ∀ x, x ∈ chL M b ∨ (∃ c, c < M.heads.length ∧ c ≠ b ∧ x ∈ chL M c) → x ≠ p → ((M.slots.set p.toNat { slotAt M p with next := (slotAt M a).next }).getD x.toNat sl0).next = (M.slots.getD x.toNat sl0).next := fun x hx hne => by
      have hx0 : 0 ≤ x := by
        rcases hx with hx | ⟨c, hc, _, hx⟩
        · exact (h.slots hb x hx).1
        · exact (h.slots hc x hx).1
      rw [getD_set_other _ _ _ _ (by omega)]
    refine fin _ ?_ rfl (by simp) ?_ ?_ ?_ ?_ ?_ ?_
    · have hhd := h.ok.headIn hb
      have := h.ok.turn (j := p.toNat) (b := b) (hd := headM M b) (inn := (slotAt M p).inn) hjp hnx hhd
      rw [show ((p.toNat : Nat) : Int) = p by omega] at this
      have he : M.heads.set b (headM M b) = M.heads := by
        rw [show headM M b = M.heads[b] by simp [headM, List.getD_eq_getElem?_getD, hb], List.set_getElem_self]
      rw [he] at this
      exact this
    · intro x; unfold keyAt; rw [hsl]; split
      · rename_i e; rw [hsx x e]
      · rfl
    · intro x; rw [hsl]; split
      · rename_i e; rw [hsx x e]
      · rfl
    · intro x; rw [hsl]; split
      · rename_i e; rw [hsx x e]
      · rfl
    · intro x; rw [hsl]; split
      · rename_i e; rw [hsx x e]
      · rfl
    · show Path (M.slots.set p.toNat { slotAt M p with next := (slotAt M a).next }) (headM M b) (l' ++ [p] ++ l2) (-1 - (b : Int))
      rw [path_app]
      refine ⟨(slotAt M a).next, ?_, path_congr (fun x hx => nxt x (.inl (by rw [hl]; simp [hx])) (fun e => hpn2 (e ▸ hx))) hp2'⟩
      rw [pathTo_snoc]
      refine ⟨pathTo_congr (fun x hx => nxt x (.inl (by rw [hl]; simp [hx])) (fun e => hpn (e ▸ hx))) hp1.1, hp1.2.1, ?_⟩
      rw [getD_set_same _ _ _ hjp]
    · intro c hc hne
      exact path_congr (fun x hx => nxt x (.inr ⟨c, hc, hne, hx⟩) (fun e => apart c hc hne p hpm (e ▸ hx))) (h.path hc)




end Go.Proofs.Ytjgcbbakgklniab.mm

/- Contracts of the numbers that stand behind slots: ToSlot, ToEnd, SlotOf, HasChain; append onto a row of one's own as one step of a region that draws. -/
namespace Go.Proofs.Ytjgcbbakgklniab.mm
open Go.ChangeShapes Go.WideShapes Go.ChangeAt Go.RowKit
set_option linter.unusedVariables false

theorem toEnd_any (b : Int) (w : World) (h0 : 0 ≤ b) (h1 : b ≤ 1000) : Calls Try.prog 139 #[.int .i64 b] w fun e w' => e = .returned (.int .i64 (-1 - b)) ∧ w = w' := by
  go_enter Try.func139, Try.ntmps139
  go_wp2
  go_ret
  exact ⟨by go_num, rfl⟩
theorem toSlot_any (b : Int) (w : World) (h0 : 0 ≤ b) (h1 : b ≤ 1000) : Calls Try.prog 148 #[.int .i64 b] w fun e w' => e = .returned (.int .i64 (b + 1)) ∧ w = w' := by
  go_enter Try.func148, Try.ntmps148
  go_wp2
  go_ret
  exact ⟨by go_num, rfl⟩
theorem slotOf_no (n : Int) (w : World) (h : n ≤ 0) : Calls Try.prog 144 #[.int .i64 n] w fun e w' => e = .returned (.tuple #[.int .i64 0, .bool false]) ∧ w = w' := by
  go_enter Try.func144, Try.ntmps144
  go_wp2
  go_ret2
  exact ⟨rfl, rfl⟩
theorem slotOf_is (n : Int) (w : World) (h : 0 < n) (h1 : n ≤ 1000) : Calls Try.prog 144 #[.int .i64 n] w fun e w' => e = .returned (.tuple #[.int .i64 (n - 1), .bool true]) ∧ w = w' := by
  go_enter Try.func144, Try.ntmps144
  go_wp2
  go_ret2
  exact ⟨by go_num, rfl⟩
theorem hasChain_any (aS aH aF aL : Option Addr) (nS nH nF nL cS cH cF cL : Nat) (now a : Int) (w : World) (hn : nH ≤ 9223372036854775807) :
    Calls Try.prog 75 #[.agg #[.slice aS nS cS, .slice aH nH cH, .slice aF nF cF, .slice aL nL cL, .int .i64 now], .int .i64 a] w fun e w' => e = .returned (.bool (inB a 0 ((nH : Int) - 1))) ∧ Below w.heap.size w w' := by
  by_cases h : 0 ≤ a
  · by_cases h2 : a < nH
    · go_enter Try.func75, Try.ntmps75
      go_wp2
      go_ret
      refine ⟨?_, one_below _ _⟩
      rw [show inB a 0 ((nH : Int) - 1) = true from (inB_iff _ _ _).2 ⟨h, by omega⟩]; rfl
    · have h3 : (nH : Int) ≤ a := by omega
      go_enter Try.func75, Try.ntmps75
      go_wp2
      go_ret
      refine ⟨?_, one_below _ _⟩
      rw [show inB a 0 ((nH : Int) - 1) = false by simp [inB]; omega]; rfl
  · have h' : a < 0 := by omega
    go_enter Try.func75, Try.ntmps75
    go_wp2
    go_ret
    refine ⟨?_, one_below _ _⟩
    rw [show inB a 0 ((nH : Int) - 1) = false by simp [inB]; omega]; rfl

theorem step_append_own_at {P : Program} (w : World) {ops : Array Oper} {o : Oper} {a : Act} {K : Act → World → Prop} {Q : Exit → Act → World → Prop} {E : Prop} (hgd : o.guard = none) (s x : Operand) (t : TypeId)
    (ho : o.op = .call { callee := .builtin .append, args := #[s, x], argTypes := #[t, t] })
    (base : Nat) (e : TypeId) (i : TypeInfo) (z : Value) (size bytes : Nat) (ht : P.underlying t = some (.slice e)) (hi : P.info? e = some i) (hz : i.zero = some z)
    (hsize : i.size = size) (hby : i.bytes = bytes) (hzs : z.cells.size = size) (hsz : 0 < size)
    (v : Value) (n : Nat) (xs : List Value) (hs : a.eval s = v) (hown : w.ownsRow base e size v n xs)
    (ad : Addr) (m c : Nat) (news : List Value) (hx : a.eval x = .slice (some ad) m c) (hl : news.length = m * size) (hnews : ∀ j u, news[j]? = some u → w.cell? (ad.add j) = some u) (h1 : ∀ u ∈ news, u.oneCell' = true)
    (h63 : n + m ≤ maxLen) (hbytes : (n + m) * bytes ≤ 140737488355328) (hbase : base ≤ w.heap.size)
    (h : ∀ v' w', w'.ownsRow base e size v' (n + m) (xs ++ news) → w.grownBy w' v.ownBlock → (v' = .slice none 0 0 ↔ v = .slice none 0 0 ∧ m = 0) → (v'.ownBlock = v.ownBlock ∨ v'.ownBlock = some w.heap.size) → K (a.put o.dst v') w') :
    if Region.wanted o (yielded ops a.tmps) = true then Oper.wp P o a w K Q else E := by
  have hw : Region.wanted o (yielded ops a.tmps) = true := by simp [Region.wanted, hgd]
  rw [if_pos hw]
  obtain ⟨v', w', hr, h2, h3, h4, h5⟩ := run_append_own_at (P := P) w base t o.type e i z size bytes ht hi hz hsize hby hzs hsz v n xs hown ad m c news hl hnews h1 h63 hbytes hbase
  unfold Oper.wp execOp
  simp only [ho, resolve, invoke, builtin, Sem.run_bind, Sem.run_pure, Result.andThen_ok, List.map_toArray, List.map_cons, List.map_nil, hs, hx, hr]
  exact h v' w' h2 h3 h4 h5




end Go.Proofs.Ytjgcbbakgklniab.mm

/- The contracts of the document's own TakeIn, HoldIn, PutIn on memory of one's own. -/
namespace Go.Proofs.Ytjgcbbakgklniab.mm
open Go.ChangeShapes Go.WideShapes Go.ChangeAt Go.RowKit Go.Joins Go.Deep
set_option maxRecDepth 100000
set_option linter.unusedVariables false

theorem rhold_no (w : World) (B gS nS j cS : Nat) (hv fv lv nv : Value) (r : Int)
    (hB : w.heap[B]? = some (.cells #[.slice (some ⟨gS, 0, none⟩) nS cS, hv, fv, lv, nv] 25 (0, 0))) (hj : j < nS) (hS : nS ≤ 9223372036854775807) (c0 : w.cell? ⟨gS, j * 6, none⟩ = some (.int .i64 r)) (hr : r ≤ 0 ∨ 1000 ≤ r) :
    Calls Try.prog 101 #[.pointer (some ⟨B, 0, none⟩), .int .i64 j] w fun e w' => e = .returned (.bool false) ∧ w = w' := by
  obtain ⟨q0, q1, q2, q3, q4, f0, f1, f2, f3, f4, qs⟩ := boxf hB
  clear hB
  by_cases h0 : r ≤ 0
  · go_enter Try.func101, Try.ntmps101
    go_wp2
    go_ret
    exact ⟨rfl, rfl⟩
  · have h1 : 1000 ≤ r := by omega
    have h2 : 0 < r := by omega
    go_enter Try.func101, Try.ntmps101
    go_wp2
    go_ret
    exact ⟨rfl, rfl⟩

theorem rhold_yes (w : World) (B gS nS j cS : Nat) (hv fv lv nv : Value) (r : Int)
    (hB : w.heap[B]? = some (.cells #[.slice (some ⟨gS, 0, none⟩) nS cS, hv, fv, lv, nv] 25 (0, 0))) (hj : j < nS) (hS : nS ≤ 9223372036854775807) (c0 : w.cell? ⟨gS, j * 6, none⟩ = some (.int .i64 r)) (f0 : w.frozen? ⟨gS, j * 6, none⟩ = false) (h0 : 0 < r) (h1 : r < 1000) :
    Calls Try.prog 101 #[.pointer (some ⟨B, 0, none⟩), .int .i64 j] w fun e w' => e = .returned (.bool true) ∧ w.setCell ⟨gS, j * 6, none⟩ (.int .i64 (r + 1)) = w' := by
  obtain ⟨q0, q1, q2, q3, q4, -, -, -, -, -, qs⟩ := boxf hB
  clear hB
  go_enter Try.func101, Try.ntmps101
  go_wp2
  go_ret
  exact ⟨rfl, rfl⟩

theorem rhold_fail (M : Mm) (w : World) (B lo : Nat) (aS aH aF aL : Option Addr) (cS cH cF cL : Nat) (i : Int) (m : Mine w B lo aS aH aF aL cS cH cF cL M) (h0 : 0 ≤ i) (h1 : i < M.slots.length) (hr : refsM M i ≤ 0 ∨ 1000 ≤ refsM M i) :
    Calls Try.prog 101 #[.pointer (some ⟨B, 0, none⟩), .int .i64 i] w fun e w' => e = .returned (.bool false) ∧ w = w' := by
  obtain ⟨j, rfl⟩ : ∃ j : Nat, i = j := ⟨i.toNat, by omega⟩
  have hj : j < M.slots.length := by omega
  have m1 := m.m1
  obtain ⟨gS, rfl, -, -, -, -⟩ := row_form m.c.s (by omega)
  rw [refsM_at M j hj] at hr
  exact rhold_no w B gS _ j cS _ _ _ _ _ m.box hj (by omega) (row_cells m.c.s hj).1 hr

theorem rhold_now (M : Mm) (w : World) (B lo : Nat) (aS aH aF aL : Option Addr) (cS cH cF cL : Nat) (i : Int) (m : Mine w B lo aS aH aF aL cS cH cF cL M) (h0 : 0 ≤ i) (h1 : i < M.slots.length) (hr : 0 < refsM M i) (hr1 : refsM M i < 1000) :
    Calls Try.prog 101 #[.pointer (some ⟨B, 0, none⟩), .int .i64 i] w fun e w' => e = .returned (.bool true) ∧ Now w w' B lo (holdM M i) := by
  obtain ⟨j, rfl⟩ : ∃ j : Nat, i = j := ⟨i.toNat, by omega⟩
  have hj : j < M.slots.length := by omega
  have m1 := m.m1
  obtain ⟨gS, rfl, oS, -, -, -⟩ := row_form m.c.s (by omega)
  have hrr := refsM_at M j hj
  rw [hrr] at hr hr1
  obtain ⟨c0, -, -, -, -, -, fz⟩ := row_cells m.c.s hj
  refine (rhold_yes w B gS _ j cS _ _ _ _ _ m.box hj (by omega) c0 (fz _) hr hr1).mono ?_
  rintro e w' ⟨rfl, rfl⟩
  have mt := turned m hj (M.slots[j].refs + 1)
  rw [← hrr] at mt ⊢
  exact ⟨rfl, _, _, _, _, _, _, _, _, mt, (Kept.refl w B lo).setCell oS _⟩

theorem rput_none (w : World) (B gS nS j cS : Nat) (hv fv lv nv : Value)
    (hB : w.heap[B]? = some (.cells #[.slice (some ⟨gS, 0, none⟩) nS cS, hv, fv, lv, nv] 25 (0, 0))) (hj : j < nS) (hS : nS ≤ 9223372036854775807) (c0 : w.cell? ⟨gS, j * 6, none⟩ = some (.int .i64 0)) :
    Calls Try.prog 102 #[.pointer (some ⟨B, 0, none⟩), .int .i64 j] w fun e w' => e = .returned (.tuple #[]) ∧ w = w' := by
  obtain ⟨q0, q1, q2, q3, q4, f0, f1, f2, f3, f4, qs⟩ := boxf hB
  clear hB
  go_enter Try.func102, Try.ntmps102
  go_wp2
  go_end0
  exact ⟨rfl, rfl⟩

theorem rput_more (w : World) (B gS nS j cS : Nat) (hv fv lv nv : Value) (r : Int)
    (hB : w.heap[B]? = some (.cells #[.slice (some ⟨gS, 0, none⟩) nS cS, hv, fv, lv, nv] 25 (0, 0))) (hj : j < nS) (hS : nS ≤ 9223372036854775807) (c0 : w.cell? ⟨gS, j * 6, none⟩ = some (.int .i64 r)) (f0 : w.frozen? ⟨gS, j * 6, none⟩ = false) (h0 : 1 < r) (h1 : r ≤ 1000) :
    Calls Try.prog 102 #[.pointer (some ⟨B, 0, none⟩), .int .i64 j] w fun e w' => e = .returned (.tuple #[]) ∧ w.setCell ⟨gS, j * 6, none⟩ (.int .i64 (r - 1)) = w' := by
  obtain ⟨q0, q1, q2, q3, q4, -, -, -, -, -, qs⟩ := boxf hB
  clear hB
  have e0 : (r == 0) = false := by rw [beq_eq_false_iff_ne]; omega
  have e1 : (r == 1) = false := by rw [beq_eq_false_iff_ne]; omega
  go_enter Try.func102, Try.ntmps102
  go_wp2
  go_end0
  exact ⟨rfl, rfl⟩

/- append of a list, nil or not, onto a row of one's own. -/
theorem wpList_app {P : Program} (w : World) {ops : Array Oper} {rest : List Oper} {o : Oper} {a : Act} {Q : Exit → Act → World → Prop} (hgd : o.guard = none) (s x : Operand) (t : TypeId)
    (ho : o.op = .call { callee := .builtin .append, args := #[s, x], argTypes := #[t, t] })
    (base : Nat) (e : TypeId) (i : TypeInfo) (z : Value) (size bytes : Nat) (ht : P.underlying t = some (.slice e)) (hi : P.info? e = some i) (hz : i.zero = some z)
    (hsize : i.size = size) (hby : i.bytes = bytes) (hzs : z.cells.size = size) (hsz : 0 < size)
    (v : Value) (n : Nat) (xs : List Value) (hs : a.eval s = v) (hown : w.ownsRow base e size v n xs)
    (ao : Option Addr) (m c : Nat) (news : List Value) (hx : a.eval x = .slice ao m c) (hl : news.length = m * size) (hn : ao = none → m = 0 ∧ c = 0) (hnews : ∀ ad, ao = some ad → ∀ j u, news[j]? = some u → w.cell? (ad.add j) = some u) (h1 : ∀ u ∈ news, u.oneCell' = true)
    (h63 : n + m ≤ maxLen) (hbytes : (n + m) * bytes ≤ 140737488355328) (hbase : base ≤ w.heap.size)
    (h : ∀ v' w', w'.ownsRow base e size v' (n + m) (xs ++ news) → w.grownBy w' v.ownBlock → (v'.ownBlock = v.ownBlock ∨ v'.ownBlock = some w.heap.size) → wpList P ops Q rest (a.put o.dst v') w') :
    wpList P ops Q (o :: rest) a w := by
  cases ao with
  | some ad => exact wpList_append_own_at w hgd s x t ho base e i z size bytes ht hi hz hsize hby hzs hsz v n xs hs hown ad m c news hx hl (hnews ad rfl) h1 h63 hbytes hbase fun v' w' a1 a2 _ a4 => h v' w' a1 a2 a4
  | none =>
    obtain ⟨rfl, rfl⟩ := hn rfl
    have hnil : news = [] := List.eq_nil_of_length_eq_zero (by rw [hl, Nat.zero_mul])
    subst hnil
    have hr := run_append_owned_none (P := P) w base t o.type e i size ht hi v n xs hown
    refine wpList_plain hgd fun K hK => ?_
    unfold Oper.wp execOp
    simp only [ho, resolve, invoke, builtin, Sem.run_bind, Sem.run_pure, Result.andThen_ok, List.map_toArray, List.map_cons, List.map_nil, hs, hx, hr]
    refine hK _ _ (h v w ?_ ⟨rfl, rfl, rfl, Nat.le_refl _, fun _ _ _ => rfl⟩ (.inl rfl))
    rw [Nat.add_zero, List.append_nil]
    exact hown

theorem lit_row (w : World) (e : TypeId) (size lo n : Nat) (hn : n = w.heap.size) (h : lo ≤ w.heap.size) : (w.alloc (.cells #[] e)).ownsRow lo e size (.slice (some ⟨n, 0, none⟩) 0 0) 0 [] := by
  subst hn
  exact World.ownsRow_lit w #[] 0 h (Nat.zero_le _) (by simp)

set_option maxHeartbeats 1600000 in
theorem rput_last (w : World) (B gS nS j lo cS cF : Nat) (aF : Option Addr) (F : List Int) (hv lv nv : Value)
    (hB : w.heap[B]? = some (.cells #[.slice (some ⟨gS, 0, none⟩) nS cS, hv, .slice aF F.length cF, lv, nv] 25 (0, 0))) (hj : j < nS) (hS : nS ≤ 9223372036854775807) (c0 : w.cell? ⟨gS, j * 6, none⟩ = some (.int .i64 1)) (f0 : w.frozen? ⟨gS, j * 6, none⟩ = false)
    (hne : B ≠ gS) (hO : IRow (w.setCell ⟨gS, j * 6, none⟩ (.int .i64 0)) aF cF F) (hm : F.length * 8 ≤ 140737488350000) :
    Calls Try.prog 102 #[.pointer (some ⟨B, 0, none⟩), .int .i64 j] w fun e w' => e = .returned (.tuple #[]) ∧ ∃ a' c' w1, Below w.heap.size (w.setCell ⟨gS, j * 6, none⟩ (.int .i64 0)) w1 ∧
      w1.ownsRow w.heap.size 3 1 (.slice a' (F.length + 1) c') (F.length + 1) (encI (F ++ [(j : Int)])) ∧ w1.setCell ⟨B, 2, none⟩ (.slice a' (F.length + 1) c') = w' := by
  obtain ⟨q0, q1, q2, q3, q4, -, -, f2, -, -, qs⟩ := boxf hB
  obtain ⟨i0, hi, hz0, hz1, hz2⟩ := info_parts iI
  have hne' : (⟨gS, j * 6, none⟩ : Addr) ≠ ⟨B, 2, none⟩ := by intro h; injection h with h; omega
  have hBs : (w.setCell ⟨gS, j * 6, none⟩ (.int .i64 0)).heap[B]? = _ := (Below.heap_setCell _ _ _ _ (by dsimp only; exact hne)).trans hB
  have HO : Hid (IRow (w.setCell ⟨gS, j * 6, none⟩ (.int .i64 0)) aF cF F) := hO
  have HBs : Hid _ := hBs
  have hzw : (w.setCell ⟨gS, j * 6, none⟩ (.int .i64 0)).heap.size = w.heap.size := World.size_setCell ..
  have HZw : Hid _ := hzw
  have HB : Hid _ := hB
  clear hB hO hBs hzw
  have HN : Hid (aF = none → F.length = 0 ∧ cF = 0) := fun h => ⟨by have := HO.out.nil h; have := HO.out.le; omega, HO.out.nil h⟩
  have HSr : Hid (∀ ad, aF = some ad → ∀ j' u, (encI F)[j']? = some u → ((w.setCell ⟨gS, j * 6, none⟩ (.int .i64 0)).alloc (.cells #[] 3)).cell? (ad.add j') = some u) := (HO.out.below (one_below _ _)).src
  have HLt : Hid (((w.setCell ⟨gS, j * 6, none⟩ (.int .i64 0)).alloc (.cells #[] 3)).ownsRow w.heap.size 3 1 (.slice (some ⟨w.heap.size, 0, none⟩) 0 0) 0 []) := lit_row _ 3 1 w.heap.size _ HZw.out.symm (Nat.le_of_eq HZw.out.symm)
  have hL63 : 0 + F.length ≤ maxLen := by unfold maxLen; omega
  have HLB : Hid (w.heap.size ≤ ((w.setCell ⟨gS, j * 6, none⟩ (.int .i64 0)).alloc (.cells #[] 3)).heap.size) := by show _ ≤ _; simp
  have HE : Hid ((encI F).length = F.length * 1) := by show _ = _; rw [encI_len, Nat.mul_one]
  go_enter Try.func102, Try.ntmps102
  go_wp2_with (first
    | (at_builtin; (refine wpList_app _ rfl (.tmp 35) (.tmp 39) 23 rfl w.heap.size 3 i0 (.int .i64 0) 1 8 Try.underlying23 hi hz0 hz1 hz2 rfl (by decide) (.slice (some ⟨w.heap.size, 0, none⟩) 0 0) 0 [] rfl HLt.out aF F.length cF (encI F) rfl HE.out HN.out HSr.out (encI_one F) hL63 (by omega) HLB.out ?_; intro v1 w1 hown1 hgrow1 hloc1; rw [Nat.zero_add, List.nil_append] at hown1; obtain ⟨a1, c1, rfl⟩ := own_shape hown1; have HO1 : Hid (w1.ownsRow w.heap.size 3 1 (.slice a1 F.length c1) F.length (encI F)) := hown1; have HG1 : Hid (((w.setCell ⟨gS, j * 6, none⟩ (.int .i64 0)).alloc (.cells #[] 3)).grownBy w1 (some w.heap.size)) := hgrow1; clear hown1 hgrow1 hloc1; have HZ1 : Hid (w.heap.size + 1 ≤ w1.heap.size) := (by have := HG1.out.size; simp at this; exact this)))
    | (at_builtin; (refine wpList_append_own_at _ rfl (.tmp 40) (.tmp 42) 23 rfl w.heap.size 3 i0 (.int .i64 0) 1 8 Try.underlying23 hi hz0 hz1 hz2 rfl (by decide) (.slice a1 F.length c1) F.length (encI F) rfl (HO1.out.alloc _) ⟨w1.heap.size, 0, none⟩ 1 1 [.int .i64 j] rfl rfl (one_new _ _ _ _ rfl) (by intro u hu; simp at hu; subst hu; rfl) (by unfold maxLen; omega) (by omega) (by simp; have := HZ1.out; omega) ?_; intro v2 w2 hown2 hgrow2 _ hloc2; obtain ⟨g2, c2, rfl⟩ := ownsRow_form hown2 (by omega); have HO2 : Hid (w2.ownsRow w.heap.size 3 1 (.slice (some ⟨g2, 0, none⟩) (F.length + 1) c2) (F.length + 1) (encI F ++ [.int .i64 j])) := hown2; have HG2 : Hid ((w1.alloc (.cells #[.int .i64 j] 3)).grownBy w2 (Value.slice a1 F.length c1).ownBlock) := hgrow2; clear hown2 hgrow2 hloc2; have HK2 : Hid (Below w.heap.size (w.setCell ⟨gS, j * 6, none⟩ (.int .i64 0)) w2) := (((((Below.refl _ _).alloc (by rw [HZw.out]; exact Nat.le_refl _) _).grown HG1.out (by simp) (fun k h => by cases h; exact Nat.le_refl _)).alloc (by have := HZ1.out; omega) _).grown HG2.out (by simp; have := HZ1.out; omega) (fun k h => (HO1.out.lt k h).1)); obtain ⟨r2, r3⟩ : w2.cell? ⟨B, 2, none⟩ = some (.slice aF F.length cF) ∧ w2.frozen? ⟨B, 2, none⟩ = false := (by obtain ⟨-, -, k2, -, -, -, -, l2, -, -, -⟩ := boxf ((HK2.out.block B qs).trans HBs.out); exact ⟨k2, l2⟩))))
  go_end0
  refine ⟨rfl, _, _, w2, HK2.out, ?_, rfl⟩
  have := HO2.out
  rwa [show encI F ++ [.int .i64 (j : Int)] = encI (F ++ [(j : Int)]) by simp [encI]] at this

theorem rput_now (M : Mm) (w : World) (B lo : Nat) (aS aH aF aL : Option Addr) (cS cH cF cL : Nat) (i : Int) (m : Mine w B lo aS aH aF aL cS cH cF cL M) (h0 : 0 ≤ i) (h1 : i < M.slots.length) (hr : 0 < refsM M i) (hr1 : refsM M i ≤ 1000) (hm : M.free.length * 8 ≤ 140737488350000) :
    Calls Try.prog 102 #[.pointer (some ⟨B, 0, none⟩), .int .i64 i] w fun e w' => e = .returned (.tuple #[]) ∧ Now w w' B lo (putM M i) := by
  obtain ⟨j, rfl⟩ : ∃ j : Nat, i = j := ⟨i.toNat, by omega⟩
  have hj : j < M.slots.length := by omega
  have m1 := m.m1
  obtain ⟨gS, rfl, oS, -, -, -⟩ := row_form m.c.s (by omega)
  have hrr := refsM_at M j hj
  obtain ⟨c0, -, -, -, -, -, fz⟩ := row_cells m.c.s hj
  by_cases hl : refsM M j = 1
  · rw [← hrr, hl] at c0
    have mt := turned m hj 0
    refine (rput_last w B gS _ j lo cS cF aF M.free _ _ _ m.box hj (by omega) c0 (fz _) m.ne_s mt.at.f hm).mono ?_
    rintro e w' ⟨rfl, a', c', w1, hb, ho, rfl⟩
    have e1 : putM M j = { M with slots := setRefs M j 0, free := M.free ++ [(j : Int)] } := by simp [putM, hl]
    have hlen : (M.free ++ [(j : Int)]).length = M.free.length + 1 := by simp
    rw [e1]
    have hz : (w.setCell ⟨gS, j * 6, none⟩ (.int .i64 0)).heap.size = w.heap.size := World.size_setCell ..
    rw [← hz] at hb ho
    have mg := mt.newF (M.free ++ [(j : Int)]) (by rw [hlen]; omega) hb hlen ho
    refine ⟨rfl, _, _, _, _, _, _, _, _, mg, ?_⟩
    have k1 : Kept w _ B lo := ((Kept.refl w B lo).setCell (j := j * 6) oS (.int .i64 0)).below hb mt.c.lz
    exact k1.setBox _
  · have hr2 : 1 < M.slots[j].refs := by omega
    refine (rput_more w B gS _ j cS _ _ _ _ _ m.box hj (by omega) c0 (fz _) hr2 (by omega)).mono ?_
    rintro e w' ⟨rfl, rfl⟩
    have e1 : putM M j = { M with slots := setRefs M j (refsM M j - 1) } := by simp [putM, hl]
    rw [e1]
    have mt := turned m hj (M.slots[j].refs - 1)
    rw [← hrr] at mt ⊢
    exact ⟨rfl, _, _, _, _, _, _, _, _, mt, (Kept.refl w B lo).setCell oS _⟩

theorem take_mid {w W1 w2 : World} {ob : Obj} (hb : Below w.heap.size w W1) (hk : W1.heap[w.heap.size]? = some ob) (hz : W1.heap.size = w.heap.size + 1) (hg : ((W1.alloc (.cells #[] 3)).drew).grownBy w2 (some W1.heap.size)) :
    Below w.heap.size w w2 ∧ w.heap.size < w2.heap.size ∧ w2.heap[w.heap.size]? = some ob := by
  have h1 : Below W1.heap.size W1 w2 := ((one_below W1 (.cells #[] 3)).drew).grown hg (by simp) (fun k h => by cases h; exact Nat.le_refl _)
  refine ⟨hb.trans (h1.mono (by omega)), by have := h1.size; omega, (h1.block _ (by omega)).trans hk⟩
theorem take_cells {w w2 : World} {gS j : Nat} {r a b v nx : Int} {i : Bool} (hb : Below w.heap.size w w2) (l : gS < w.heap.size)
    (c0 : w.cell? ⟨gS, j * 6, none⟩ = some (.int .i64 r)) (c1 : w.cell? ⟨gS, j * 6 + 1, none⟩ = some (.int .i64 a)) (c2 : w.cell? ⟨gS, j * 6 + 2, none⟩ = some (.int .i64 b)) (c3 : w.cell? ⟨gS, j * 6 + 3, none⟩ = some (.int .i64 v)) (c4 : w.cell? ⟨gS, j * 6 + 4, none⟩ = some (.bool i)) (c5 : w.cell? ⟨gS, j * 6 + 5, none⟩ = some (.int .i64 nx))
    (hfz : ∀ q, w.frozen? ⟨gS, q, none⟩ = false) : w2.cell? ⟨gS, j * 6, none⟩ = some (.int .i64 r) ∧ w2.cell? ⟨gS, j * 6 + 1, none⟩ = some (.int .i64 a) ∧ w2.cell? ⟨gS, j * 6 + 2, none⟩ = some (.int .i64 b) ∧ w2.cell? ⟨gS, j * 6 + 3, none⟩ = some (.int .i64 v) ∧ w2.cell? ⟨gS, j * 6 + 4, none⟩ = some (.bool i) ∧ w2.cell? ⟨gS, j * 6 + 5, none⟩ = some (.int .i64 nx) ∧ ∀ q, w2.frozen? ⟨gS, q, none⟩ = false := by
  obtain ⟨q, f⟩ := bcell hb
  exact ⟨(q _ _ l).trans c0, (q _ _ l).trans c1, (q _ _ l).trans c2, (q _ _ l).trans c3, (q _ _ l).trans c4, (q _ _ l).trans c5, fun x => (f _ _ l).trans (hfz x)⟩



end Go.Proofs.Ytjgcbbakgklniab.mm

/- The contract of the document's own IsKey; a set of ints as a map of one's own. -/
namespace Go.Proofs.Ytjgcbbakgklniab.mm
open Go.ChangeShapes Go.WideShapes Go.ChangeAt Go.RowKit Go.Maps
set_option maxRecDepth 100000
set_option linter.unusedVariables false

theorem isKey_any (a b : Int) (w : World) :
    Calls Try.prog 82 #[.agg #[.int .i64 a, .int .i64 b]] w fun e w' => e = .returned (.bool (keyB a b)) ∧ Below w.heap.size w w' := by
  cases h : keyB a b
  · have hc : a < 0 ∨ (0 ≤ a ∧ 15 < a) ∨ (0 ≤ a ∧ a ≤ 15 ∧ b < 0) ∨ (0 ≤ a ∧ a ≤ 15 ∧ 0 ≤ b ∧ 15 < b) := by
      have : ¬ ((0 ≤ a ∧ a ≤ 15) ∧ (0 ≤ b ∧ b ≤ 15)) := fun hh => by rw [(keyB_iff a b).2 hh] at h; cases h
      omega
    clear h
    rcases hc with h | ⟨h1, h2⟩ | ⟨h1, h2, h3⟩ | ⟨h1, h2, h3, h4⟩
    rotate_left 3
    · have hd : decide (b ≤ 15) = false := by simp; omega
      go_enter Try.func82, Try.ntmps82
      go_wp2
      go_ret
      exact ⟨rfl, one_below _ _⟩
    all_goals
      go_enter Try.func82, Try.ntmps82
      go_wp2
      go_ret
      exact ⟨rfl, one_below _ _⟩
  · obtain ⟨⟨h0, h1⟩, h2, h3⟩ := (keyB_iff a b).1 h
    clear h
    go_enter Try.func82, Try.ntmps82
    go_wp2
    go_ret
    exact ⟨rfl, one_below _ _⟩

theorem law3 : Keyed Try.prog 3 := int_keyed Try.underlying3
theorem zero4 (w : World) : (zeroValue 4).run Try.prog w = .ok (.bool false) w := by kernel_rfl
theorem under130 : Try.prog.underlying 130 = some (.map 3 4) := by kernel_rfl

theorem plainElem_bool_inv {H : Type} {v : Value} {z : DataW H × List MemPlace} (h : plainElem Try.prog 4 v = some z) : ∃ x, v = .bool x ∧ z = (.lit (.bool x), []) := by
  unfold plainElem at h
  rw [Try.underlying4] at h
  cases v <;> simp at h
  exact ⟨_, rfl, h.symm⟩

/- Block g is a map whose keys that are true are these. -/
def SetAt (w : World) (g : Nat) (l : List Int) : Prop :=
  ∃ n, n ≤ l.length ∧ ∃ D : DataW Unit, w.ownsMap Try.prog 3 (plainElem Try.prog 4) g n D ∧ ∀ x : Int, D.atKey (.int .i64 x) (.lit (.bool false)) = .lit (.bool (hasB l x))

theorem SetAt.made (w : World) : SetAt (w.alloc (.map #[] 0)) w.heap.size [] :=
  ⟨0, Nat.le_refl _, _, World.ownsMap_made w Try.prog 3 _, fun x => by simp [hasB, DataW.atKey]⟩
theorem SetAt.kept {w w' : World} {g : Nat} {l : List Int} (h : SetAt w g l) (hb : w'.heap[g]? = w.heap[g]?) : SetAt w' g l := by
  obtain ⟨n, hn, D, ⟨es, clock, hg, F, hs, hD⟩, hat⟩ := h
  exact ⟨n, hn, D, ⟨es, clock, hb.trans hg, F, hs, hD⟩, hat⟩
theorem SetAt.lt {w : World} {g : Nat} {l : List Int} (h : SetAt w g l) : g < w.heap.size := by
  obtain ⟨n, hn, D, ⟨es, clock, hg, F, hs, hD⟩, hat⟩ := h
  exact lt_of_block hg
theorem SetAt.look {w : World} {g : Nat} {l : List Int} (h : SetAt w g l) {x : Int} (hx : (Lit.int .i64 x).wf = true) : (Instr.lookup 130 (.map (some g)) (.int .i64 x) false).run Try.prog w = .ok (.bool (hasB l x)) w := by
  obtain ⟨n, hn, D, ho, hat⟩ := h
  obtain ⟨v, ps, hrun, hv⟩ := ho.lookup law3 under130 (zero4 w) (plainElem_bool Try.underlying4 false) (keyOf_int_mk Try.underlying3 hx)
  rw [hat x] at hv
  obtain ⟨y, rfl, hz⟩ := plainElem_bool_inv hv
  rw [hrun]
  injection hz with h1 h2
  injection h1 with h1
  injection h1 with h1
  rw [h1]
theorem wf64 {x : Int} (h0 : -9223372036854775808 ≤ x) (h1 : x ≤ 9223372036854775807) : (Lit.int .i64 x).wf = true := by
  have e1 : IntKind.i64.min = -9223372036854775808 := by decide
  have e2 : IntKind.i64.max = 9223372036854775807 := by decide
  simp [Lit.wf, e1, e2]
  omega
theorem SetAt.put {w w' : World} {g n : Nat} {l : List Int} {D : DataW Unit} {x : Int} (hn : n ≤ l.length) (ho : w.ownsMap Try.prog 3 (plainElem Try.prog 4) g n D) (hat : ∀ x : Int, D.atKey (.int .i64 x) (.lit (.bool false)) = .lit (.bool (hasB l x)))
    (h : w'.ownsMap Try.prog 3 (plainElem Try.prog 4) g (n + 1) (D.put (.int .i64 x) (.lit (.bool true)))) : SetAt w' g (l ++ [x]) := by
  refine ⟨n + 1, by simp; omega, _, h, fun y => ?_⟩
  by_cases e : y = x
  · subst e
    rw [atKey_put_same (ho.tidy law3).isMap (by simp [WideAt.IsKeyLit])]
    simp [hasB]
  · rw [atKey_put_other (by intro hh; injection hh with _ hh; exact e hh), hat y]
    simp [hasB, e]




end Go.Proofs.Ytjgcbbakgklniab.mm
