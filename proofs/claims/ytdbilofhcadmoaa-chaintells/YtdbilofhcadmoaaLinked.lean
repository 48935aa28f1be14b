/- The contract of chain.Linked. -/
import Derived.Test.YtdbilofhcadmoaaCut
namespace Go.Proofs.Ytdbilofhcadmoaa.mm
open Go.ChangeShapes Go.WideShapes Go.ChangeAt Go.RowKit Go.Joins Go.Maps
set_option maxRecDepth 100000
set_option linter.unusedVariables false

set_option maxHeartbeats 6400000 in
theorem linked_any (M : Mm) (aS aH aF aL : Option Addr) (cS cH cF cL : Nat) (a : Int) (w : World) (A : At w aS aH aF aL cS cH cF cL M) :
    Calls Try.prog 41 #[.agg #[.slice aS M.slots.length cS, .slice aH M.heads.length cH, .slice aF M.free.length cF, .slice aL M.locks.length cL, .int .i64 M.now], .int .i64 a] w fun e w' => ∃ v, e = .returned (.tuple #[v, .int .i64 (linkE M a)]) ∧ Ans w.heap.size w' v (linkedM M a) ∧ Below w.heap.size w w' := by
  have m1 := A.s.max; have m2 := A.h.max; have m4 := A.l.max
  have n1 : M.slots.length ≤ 9223372036854775807 := by omega
  obtain ⟨E0, hE0⟩ : ∃ E0, E0 = linkE M a := ⟨_, rfl⟩
  obtain ⟨M1, hM1⟩ : ∃ M1, M1 = linkedM M a := ⟨_, rfl⟩
  rw [← hE0, ← hM1]
  have HE0 : Hid (E0 = linkE M a) := hE0
  have HM1 : Hid (M1 = linkedM M a) := hM1
  clear hE0 hM1
  have bad : ∀ e : Int, e ≠ 0 → linkE M a = e → E0 = e ∧ M1 = m0 := fun e he h => ⟨HE0.out.trans h, HM1.out.trans (by unfold linkedM; rw [h, if_neg he])⟩
  have HBad : Hid _ := bad
  clear bad
  obtain ⟨o1, ho1⟩ : ∃ o : Obj, o = .cells #[.slice aS M.slots.length cS, .slice aH M.heads.length cH, .slice aF M.free.length cF, .slice aL M.locks.length cL, .int .i64 M.now] 29 := ⟨_, rfl⟩
  obtain ⟨o2, ho2⟩ : ∃ o : Obj, o = .cells #[.slice none 0 0, .slice none 0 0, .slice none 0 0, .slice none 0 0, .int .i64 0] 29 := ⟨_, rfl⟩
  have b0 : Below w.heap.size w ((w.alloc o1).alloc o2) := below_alloc2 w o1 o2
  have HB0 : Hid (((w.alloc o1).alloc o2).heap[w.heap.size]? = some o1) := by show _ = _; rw [Below.heap_alloc _ _ _ (by simp), heap_alloc_new]
  have HR0 : Hid (((w.alloc o1).alloc o2).heap[w.heap.size + 1]? = some o2) := by
    have := heap_alloc_new (w.alloc o1) o2
    rwa [show (w.alloc o1).heap.size = w.heap.size + 1 by simp] at this
  have HZ0 : Hid (((w.alloc o1).alloc o2).heap.size = w.heap.size + 2) := by show _ = _; simp
  have HA : Hid (At w aS aH aF aL cS cH cF cL M) := A
  have HA0 : Hid _ := A.below b0
  clear A
  go_enter Try.func41, Try.ntmps41
  go_wp2_with fail
  rw [← ho1, ← ho2]
  generalize (w.alloc o1).alloc o2 = W0 at *
  subst ho1 ho2
  refine (mapped_any M aS aH aF aL cS cH cF cL W0 HA0.out).mono ?_
  rintro e w1 ⟨vm, rfl, hmap, hb1⟩
  have b1 := b0.trans (hb1.mono b0.size)
  have HB1 : Hid (w1.heap[w.heap.size]? = _) := (hb1.block w.heap.size (lt_of_block HB0.out)).trans HB0.out
  have HR1 : Hid (w1.heap[w.heap.size + 1]? = _) := (hb1.block (w.heap.size + 1) (lt_of_block HR0.out)).trans HR0.out
  have HMap : Hid (MapIs M (chkC M) W0.heap.size w1 vm) := hmap
  clear hb1 b0 HB0 HR0 HA0 hmap
  by_cases hE : chkC M = 0
  rotate_left
  · have HV : Hid (E0 = chkC M ∧ M1 = m0) := HBad.out _ hE (by unfold linkE; rw [if_pos hE])
    have h' : (chkC M != 0) = true := by simpa using hE
    obtain ⟨r0, r1, r2, r3, r4, g0, g1, g2, g3, g4, rs⟩ := boxf HR1.out
    clear HB1 HR1 HMap
    generalize chkC M = E at *
    go_wp2
    refine bodyPost_ret (v := .tuple #[.agg #[.slice none 0 0, .slice none 0 0, .slice none 0 0, .slice none 0 0, .int .i64 0], .int .i64 E]) (by simp [results, Try.results41, go_sem, r0, r1, r2, r3, r4]) rfl ⟨_, by rw [HV.out.1], by rw [HV.out.2]; exact ans0 _ _, ?_⟩
    exact b1.trans (set5_below w1 _ _ _ _ _ _ _ (by omega))
  have HC : Hid (chkC M = 0) := hE
  have hokc := (chkC_zero M).1 hE
  have hok := hokc.ok
  have k0 := hok.ns
  have k1 := hok.nh
  obtain ⟨gm, rfl, hgm, hMA⟩ := HMap.out.2 hE
  have HMA : Hid (MapAt M w1 gm (allC M)) := hMA
  have lgm := hMA.lt
  rw [hE]
  clear hE hMA HMap
  obtain ⟨q0, q1, q2, q3, q4, f0, f1, f2, f3, f4, qs⟩ := boxf HB1.out
  clear f0 f1 f2 f3 f4
  go_wp2_with fail
  refine (isSlot_any aS aH aF aL _ _ _ _ cS cH cF cL _ _ w1 n1).mono ?_
  rintro e w2 ⟨rfl, hb2⟩
  have b2 := b1.trans (hb2.mono b1.size)
  have HB2 : Hid (w2.heap[w.heap.size]? = _) := (hb2.block w.heap.size qs).trans HB1.out
  have HR2 : Hid (w2.heap[w.heap.size + 1]? = _) := (hb2.block (w.heap.size + 1) (lt_of_block HR1.out)).trans HR1.out
  have HM2 : Hid (MapAt M w2 gm (allC M)) := MapAt.kept HMA.out (hb2.block gm lgm)
  clear hb2 b1 HB1 HR1 HMA q0 q1 q2 q3 q4 qs lgm
  cases hS : inB a 0 ((M.slots.length : Int) - 1)
  · have HV : Hid (E0 = 5 ∧ M1 = m0) := HBad.out 5 (by decide) (by unfold linkE; rw [if_neg (by simpa using HC.out), if_pos (show isSl M a = false from hS)])
    obtain ⟨r0, r1, r2, r3, r4, g0, g1, g2, g3, g4, rs⟩ := boxf HR2.out
    clear HB2 HR2 HM2
    go_wp2
    refine bodyPost_ret (v := .tuple #[.agg #[.slice none 0 0, .slice none 0 0, .slice none 0 0, .slice none 0 0, .int .i64 0], .int .i64 5]) (by simp [results, Try.results41, go_sem, r0, r1, r2, r3, r4]) rfl ⟨_, by rw [HV.out.1], by rw [HV.out.2]; exact ans0 _ _, ?_⟩
    exact b2.trans (set5_below w2 _ _ _ _ _ _ _ (by omega))
  have HS : Hid (isSl M a = true) := hS
  obtain ⟨j, rfl, hj⟩ := (isSl_iff M a).1 hS
  clear hS
  have HA2 : Hid _ := HA.out.below b2
  rcases HA2.out.s.at_ with h0 | ⟨bs, os, rfl, hcs⟩
  · omega
  obtain ⟨s0, s1, s2, s3, s4, s5⟩ := hcs j hj
  have ls := cell_lt s0
  have hgood := slot_good (hok.slot _ (List.getElem_mem hj))
  have hsl : slotAt M j = M.slots[j] := slotAt_lt hj
  generalize hM : M.slots[j] = s at s0 s1 s2 s3 s4 s5 hsl hgood
  obtain ⟨r, ka, kb, u, i, nx⟩ := s
  dsimp only at s0 s1 s2 s3 s4 s5 hgood
  have HSL : Hid (slotAt M j = ⟨r, ka, kb, u, i, nx⟩) := hsl
  have HRf : Hid (refsM M j = r) := by show (slotAt M j).refs = r; rw [hsl]
  have HKy : Hid (keyAt M j = (ka, kb)) := by unfold keyAt; rw [hsl]; exact rfl
  have hkey := hgood.2.2.1
  have HK : Hid (keyB ka kb = true) := hkey
  clear hM hsl hcs hgood hkey
  obtain ⟨q0, q1, q2, q3, q4, f0, f1, f2, f3, f4, qs⟩ := boxf HB2.out
  obtain ⟨r0, r1, r2, r3, r4, g0, g1, g2, g3, g4, rs⟩ := boxf HR2.out
  clear f0 f1 f2 f3 f4
  by_cases hr : r = 0
  · subst hr
    have HV : Hid (E0 = 8 ∧ M1 = m0) := HBad.out 8 (by decide) (by unfold linkE; rw [if_neg (by simpa using HC.out), if_neg (by rw [HS.out]; simp), if_pos HRf.out])
    clear HB2 HR2 HM2
    go_wp2
    refine bodyPost_ret (v := .tuple #[.agg #[.slice none 0 0, .slice none 0 0, .slice none 0 0, .slice none 0 0, .int .i64 0], .int .i64 8]) (by simp [results, Try.results41, go_sem, r0, r1, r2, r3, r4, rs]) rfl ⟨_, by rw [HV.out.1], by rw [HV.out.2]; exact ans0 _ _, ?_⟩
    exact (b2.trans (set5_below w2 _ _ _ _ _ _ _ (by omega))).alloc (by rw [set5_size]; exact b2.size) _
  have hr' : (r == 0) = false := by simpa using hr
  have HRn : Hid (refsM M j ≠ 0) := by rw [HRf.out]; exact hr
  have b2s := b2.size
  have lgm2 := MapAt.lt HM2.out
  have hl := MapAt.look (MapAt.kept (w' := w2.alloc (.cells #[.int .i64 r, .int .i64 ka, .int .i64 kb, .int .i64 u, .bool i, .int .i64 nx] 48)) HM2.out (Below.heap_alloc _ _ _ lgm2)) HK.out
  cases hh : hasK M (allC M) (ka, kb)
  rotate_left
  · rw [hh] at hl
    have HV : Hid (E0 = 6 ∧ M1 = m0) := HBad.out 6 (by decide) (by unfold linkE; rw [if_neg (by simpa using HC.out), if_neg (by rw [HS.out]; simp), if_neg HRn.out, HKy.out, hh]; rfl)
    clear HB2 HR2 HM2
    go_wp2
    refine bodyPost_ret (v := .tuple #[.agg #[.slice none 0 0, .slice none 0 0, .slice none 0 0, .slice none 0 0, .int .i64 0], .int .i64 6]) (by simp [results, Try.results41, go_sem, r0, r1, r2, r3, r4, rs]) rfl ⟨_, by rw [HV.out.1], by rw [HV.out.2]; exact ans0 _ _, ?_⟩
    exact (b2.trans (set5_below w2 _ _ _ _ _ _ _ (by omega))).alloc (by rw [set5_size]; exact b2.size) _
  rw [hh] at hl
  have HV : Hid (E0 = 0 ∧ M1 = linkAt M j (ownB M j)) := by
    have : linkE M j = 0 := linkE_of hokc HS.out HRn.out (by rw [HKy.out]; exact hh)
    exact ⟨HE0.out.trans this, HM1.out.trans (by unfold linkedM; rw [this, if_pos rfl]; rfl)⟩
  have HBk : Hid (bucket ka kb M.heads.length = (ownB M j : Int)) := by
    show _ = _
    rw [ownB_eq hok j, HSL.out]
  have hob := ownB_lt hok j
  clear HE0 HM1 HBad hh HRn HKy HRf HSL
  obtain ⟨o5, ho5⟩ : ∃ o : Obj, o = .cells #[.int .i64 r, .int .i64 ka, .int .i64 kb, .int .i64 u, .bool i, .int .i64 nx] 48 := ⟨_, rfl⟩
  have b3 := b2.alloc b2.size o5
  have HB3 : Hid ((w2.alloc o5).heap[w.heap.size]? = _) := (Below.heap_alloc _ _ _ qs).trans HB2.out
  have HR3 : Hid ((w2.alloc o5).heap[w.heap.size + 1]? = _) := (Below.heap_alloc _ _ _ rs).trans HR2.out
  clear g0 g1 g2 g3 g4
  go_wp2_with fail
  rw [← ho5]
  rw [← ho5] at hl
  generalize w2.alloc o5 = W3 at *
  subst ho5
  clear hl HB2 HR2 HM2 b2 q0 q1 q2 q3 q4 r0 r1 r2 r3 r4 qs rs s0 s1 s2 s3 s4 s5
  refine (bucket_ok _ _ _ _ HK.out k1.1 k1.2).mono ?_
  rintro e w4 ⟨rfl, hb4⟩
  rw [HBk.out]
  have b4 := b3.trans (hb4.mono b3.size)
  have HB4 : Hid (w4.heap[w.heap.size]? = _) := (hb4.block w.heap.size (lt_of_block HB3.out)).trans HB3.out
  have HR4 : Hid (w4.heap[w.heap.size + 1]? = _) := (hb4.block (w.heap.size + 1) (lt_of_block HR3.out)).trans HR3.out
  have HA4 : Hid _ := HA.out.below b4
  clear hb4 b3 HB3 HR3
  generalize hcb : ownB M j = cb at *
  clear hcb
  obtain ⟨q0, q1, q2, q3, q4, f0, f1, f2, f3, f4, qs⟩ := boxf HB4.out
  go_wp2_with fail
  refine (copy_any M _ aH aF aL cS cH cF cL w4 HA4.out).mono ?_
  rintro e w5 ⟨gS, gH, gF, gL, kS, kH, kF, kL, rfl, c5, hb5⟩
  have b5 := b4.trans (hb5.mono b4.size)
  have HB5 : Hid (w5.heap[w.heap.size]? = _) := (hb5.block w.heap.size qs).trans HB4.out
  have HR5 : Hid (w5.heap[w.heap.size + 1]? = _) := (hb5.block (w.heap.size + 1) (lt_of_block HR4.out)).trans HR4.out
  have t4 := lt_of_block HR4.out
  have b4s := b4.size
  clear hb5 b4 HB4 HR4 HA4 q0 q1 q2 q3 q4 f0 f1 f2 f3 f4
  have m3 := hok.few
  have hMn : Mine (set5 w5 w.heap.size (.slice gS M.slots.length kS) (.slice gH M.heads.length kH) (.slice gF M.free.length kF) (.slice gL M.locks.length kL) (.int .i64 M.now)) w.heap.size w4.heap.size gS gH gF gL kS kH kF kL M :=
    ⟨set5_block HB5.out _ _ _ _ _, c5.set5 HB5.out _ _ _ _ _, m1, m2, by omega, m4⟩
  have b6 := b5.trans (set5_below w5 w.heap.size w.heap.size (.slice gS M.slots.length kS) (.slice gH M.heads.length kH) (.slice gF M.free.length kF) (.slice gL M.locks.length kL) (.int .i64 M.now) (Nat.le_refl _))
  have HR6 : Hid ((set5 w5 w.heap.size (.slice gS M.slots.length kS) (.slice gH M.heads.length kH) (.slice gF M.free.length kF) (.slice gL M.locks.length kL) (.int .i64 M.now)).heap[w.heap.size + 1]? = _) := (set5_other (by omega)).trans HR5.out
  have HMn : Hid _ := hMn
  obtain ⟨q0, q1, q2, q3, q4, f0, f1, f2, f3, f4, qs⟩ := boxf HB5.out
  clear hMn HB5 HR5 c5
  go_wp2_with fail
  rw [show ((((w5.setCell ⟨w.heap.size, 0, none⟩ (.slice gS M.slots.length kS)).setCell ⟨w.heap.size, 1, none⟩ (.slice gH M.heads.length kH)).setCell ⟨w.heap.size, 2, none⟩ (.slice gF M.free.length kF)).setCell ⟨w.heap.size, 3, none⟩ (.slice gL M.locks.length kL)).setCell ⟨w.heap.size, 4, none⟩ (.int .i64 M.now) = set5 w5 w.heap.size (.slice gS M.slots.length kS) (.slice gH M.heads.length kH) (.slice gF M.free.length kF) (.slice gL M.locks.length kL) (.int .i64 M.now) from rfl]
  clear q0 q1 q2 q3 q4 f0 f1 f2 f3 f4 qs b5
  generalize set5 w5 w.heap.size (.slice gS M.slots.length kS) (.slice gH M.heads.length kH) (.slice gF M.free.length kF) (.slice gL M.locks.length kL) (.int .i64 M.now) = W6 at *
  refine (link_any M W6 _ _ gS gH gF gL kS kH kF kL j cb HMn.out hok hj hob).mono ?_
  rintro e w7 ⟨rfl, aS', aH', aF', aL', cS', cH', cF', cL', k7, A7, kept, hi7⟩
  have b7 : Below w.heap.size w w7 := b6.trans ⟨kept.os, kept.tape, kept.output, kept.size, fun k hk => kept.block k (by omega) (by omega)⟩
  have HR7 : Hid (w7.heap[w.heap.size + 1]? = _) := (kept.block (w.heap.size + 1) t4 (by omega)).trans HR6.out
  have HA7 : Hid _ := A7
  have HK7 : Hid _ := k7
  clear A7 kept HR6 HMn b6 k7
  obtain ⟨r0, r1, r2, r3, r4, g0, g1, g2, g3, g4, rs⟩ := boxf HR7.out
  obtain ⟨q0, q1, q2, q3, q4, f0, f1, f2, f3, f4, qs⟩ := boxf HK7.out
  generalize hLM : linkAt M j cb = Mn at *
  clear hLM
  go_wp2
  refine bodyPost_ret (v := .tuple #[.agg #[.slice aS' Mn.slots.length cS', .slice aH' Mn.heads.length cH', .slice aF' Mn.free.length cF', .slice aL' Mn.locks.length cL', .int .i64 Mn.now], .int .i64 0]) (by simp [results, Try.results41, go_sem, r0, r1, r2, r3, r4]) rfl ⟨_, by rw [HV.out.1], ?_, ?_⟩
  · rw [HV.out.2]
    have A8 := HA7.out.off hi7 t4 (fun k hk => set5_other (w := w7) (v0 := .slice aS' Mn.slots.length cS') (v1 := .slice aH' Mn.heads.length cH') (v2 := .slice aF' Mn.free.length cF') (v3 := .slice aL' Mn.locks.length cL') (v4 := .int .i64 Mn.now) hk)
    exact ⟨aS', aH', aF', aL', cS', cH', cF', cL', rfl, A8, hi7.mono b4s⟩
  · exact b7.trans (set5_below w7 _ _ _ _ _ _ _ (by omega))


end Go.Proofs.Ytdbilofhcadmoaa.mm
