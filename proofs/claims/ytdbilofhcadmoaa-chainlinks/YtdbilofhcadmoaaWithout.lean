/- The contract of chain.Without. -/
import Derived.Test.YtdbilofhcadmoaaCut
import Derived.Test.YtdbilofhcadmoaaTaken
namespace Go.Proofs.Ytdbilofhcadmoaa.mm
open Go.ChangeShapes Go.WideShapes Go.ChangeAt Go.RowKit Go.Joins Go.Maps
set_option maxRecDepth 100000
set_option linter.unusedVariables false

theorem aheadF_le {a N : Int} : ∀ (l : List Int) (ah la : Int), (∀ x ∈ l, x < N) → ah ≤ N → la ≤ N → aheadF a l ah la ≤ N
  | [], ah, la, _, h1, _ => h1
  | c :: l, ah, la, h, h1, h2 => by
    have hc := h c (by simp)
    simp only [aheadF]
    refine aheadF_le l _ _ (fun x hx => h x (by simp [hx])) ?_ (by omega)
    split
    · exact h2
    · exact h1

set_option maxHeartbeats 6400000 in
theorem without_any (M : Mm) (aS aH aF aL : Option Addr) (cS cH cF cL : Nat) (ka kb : Int) (w : World) (A : At w aS aH aF aL cS cH cF cL M) :
    Calls Try.prog 42 #[.agg #[.slice aS M.slots.length cS, .slice aH M.heads.length cH, .slice aF M.free.length cF, .slice aL M.locks.length cL, .int .i64 M.now], .agg #[.int .i64 ka, .int .i64 kb]] w fun e w' => ∃ v, e = .returned (.tuple #[v, .int .i64 (withoutN M ka kb), .int .i64 (withoutE M ka kb)]) ∧ Ans w.heap.size w' v (withoutM M ka kb) ∧ Below w.heap.size w w' := by
  have m1 := A.s.max; have m2 := A.h.max; have m4 := A.l.max
  obtain ⟨E0, hE0⟩ : ∃ E0, E0 = withoutE M ka kb := ⟨_, rfl⟩
  obtain ⟨N0, hN0⟩ : ∃ N0, N0 = withoutN M ka kb := ⟨_, rfl⟩
  obtain ⟨M1, hM1⟩ : ∃ M1, M1 = withoutM M ka kb := ⟨_, rfl⟩
  rw [← hE0, ← hM1, ← hN0]
  have HE0 : Hid (E0 = withoutE M ka kb) := hE0
  have HN0 : Hid (N0 = withoutN M ka kb) := hN0
  have HM1 : Hid (M1 = withoutM M ka kb) := hM1
  clear hE0 hM1 hN0
  have bad : ∀ e : Int, e ≠ 0 → withoutE M ka kb = e → E0 = e ∧ M1 = m0 ∧ N0 = 0 := fun e he h => ⟨HE0.out.trans h, HM1.out.trans (by unfold withoutM; rw [h, if_neg he]), HN0.out.trans (by unfold withoutN; rw [h, if_neg he])⟩
  have HBad : Hid _ := bad
  clear bad
  obtain ⟨o1, ho1⟩ : ∃ o : Obj, o = .cells #[.slice aS M.slots.length cS, .slice aH M.heads.length cH, .slice aF M.free.length cF, .slice aL M.locks.length cL, .int .i64 M.now] 29 := ⟨_, rfl⟩
  obtain ⟨o3, ho3⟩ : ∃ o : Obj, o = .cells #[.int .i64 ka, .int .i64 kb] 37 := ⟨_, rfl⟩
  obtain ⟨o2, ho2⟩ : ∃ o : Obj, o = .cells #[.slice none 0 0, .slice none 0 0, .slice none 0 0, .slice none 0 0, .int .i64 0] 29 := ⟨_, rfl⟩
  have b0 : Below w.heap.size w (((w.alloc o1).alloc o3).alloc o2) := (below_alloc2 w o1 o3).alloc (by simp; omega) o2
  have HB0 : Hid ((((w.alloc o1).alloc o3).alloc o2).heap[w.heap.size]? = some o1) := by show _ = _; rw [Below.heap_alloc _ _ _ (by simp; omega), Below.heap_alloc _ _ _ (by simp), heap_alloc_new]
  have HK0 : Hid ((((w.alloc o1).alloc o3).alloc o2).heap[w.heap.size + 1]? = some o3) := by
    show _ = _
    rw [Below.heap_alloc _ _ _ (by simp)]
    have := heap_alloc_new (w.alloc o1) o3
    rwa [show (w.alloc o1).heap.size = w.heap.size + 1 by simp] at this
  have HR0 : Hid ((((w.alloc o1).alloc o3).alloc o2).heap[w.heap.size + 2]? = some o2) := by
    have := heap_alloc_new ((w.alloc o1).alloc o3) o2
    rwa [show ((w.alloc o1).alloc o3).heap.size = w.heap.size + 2 by simp] at this
  have HZ0 : Hid ((((w.alloc o1).alloc o3).alloc o2).heap.size = w.heap.size + 3) := by show _ = _; simp
  have HA : Hid (At w aS aH aF aL cS cH cF cL M) := A
  have HA0 : Hid _ := A.below b0
  clear A
  go_enter Try.func42, Try.ntmps42
  go_wp2_with fail
  rw [← ho1, ← ho2, ← ho3]
  generalize ((w.alloc o1).alloc o3).alloc o2 = W0 at *
  subst ho1 ho2 ho3
  refine (mapped_any M aS aH aF aL cS cH cF cL W0 HA0.out).mono ?_
  rintro e w1 ⟨vm, rfl, hmap, hb1⟩
  have b1 := b0.trans (hb1.mono b0.size)
  have HB1 : Hid (w1.heap[w.heap.size]? = _) := (hb1.block w.heap.size (lt_of_block HB0.out)).trans HB0.out
  have HK1 : Hid (w1.heap[w.heap.size + 1]? = _) := (hb1.block (w.heap.size + 1) (lt_of_block HK0.out)).trans HK0.out
  have HR1 : Hid (w1.heap[w.heap.size + 2]? = _) := (hb1.block (w.heap.size + 2) (lt_of_block HR0.out)).trans HR0.out
  have HMap : Hid (MapIs M (chkC M) W0.heap.size w1 vm) := hmap
  clear hb1 b0 HB0 HR0 HA0 hmap HK0
  by_cases hE : chkC M = 0
  rotate_left
  · have HV : Hid (E0 = chkC M ∧ M1 = m0 ∧ N0 = 0) := HBad.out _ hE (by unfold withoutE; rw [if_pos hE])
    have h' : (chkC M != 0) = true := by simpa using hE
    obtain ⟨r0, r1, r2, r3, r4, g0, g1, g2, g3, g4, rs⟩ := boxf HR1.out
    clear HB1 HR1 HMap HK1
    generalize chkC M = E at *
    go_wp2
    refine bodyPost_ret (v := .tuple #[.agg #[.slice none 0 0, .slice none 0 0, .slice none 0 0, .slice none 0 0, .int .i64 0], .int .i64 0, .int .i64 E]) (by simp [results, Try.results42, go_sem, r0, r1, r2, r3, r4]) rfl ⟨_, by rw [HV.out.1, HV.out.2.2], by rw [HV.out.2.1]; exact ans0 _ _, ?_⟩
    exact b1.trans (set5_below w1 _ _ _ _ _ _ _ (by omega))
  have HC : Hid (chkC M = 0) := hE
  have hokc := (chkC_zero M).1 hE
  have hok := hokc.ok
  have n0 := hok.ns
  have n1 := hok.nh
  obtain ⟨gm, rfl, hgm, hMA⟩ := HMap.out.2 hE
  have HMA : Hid (MapAt M w1 gm (allC M)) := hMA
  have lgm := hMA.lt
  rw [hE]
  clear hE hMA HMap
  obtain ⟨q0, q1, q2, q3, q4, f0, f1, f2, f3, f4, qs⟩ := boxf HB1.out
  obtain ⟨p0, p1⟩ := keyf HK1.out
  clear f0 f1 f2 f3 f4
  cases hK : keyB ka kb
  · have HV : Hid (E0 = 3 ∧ M1 = m0 ∧ N0 = 0) := HBad.out 3 (by decide) (by unfold withoutE; rw [if_neg (by simpa using HC.out), if_pos hK])
    go_wp2_with fail
    refine (bucket_bad _ _ _ _ hK).mono ?_
    rintro e w2 ⟨rfl, hb2⟩
    have b2 := b1.trans (hb2.mono b1.size)
    have HR2 : Hid (w2.heap[w.heap.size + 2]? = _) := (hb2.block (w.heap.size + 2) (lt_of_block HR1.out)).trans HR1.out
    obtain ⟨r0, r1, r2, r3, r4, g0, g1, g2, g3, g4, rs⟩ := boxf HR2.out
    clear HB1 HR1 HR2 HMA HK1 q0 q1 q2 q3 q4 qs b1 hb2
    go_wp2
    refine bodyPost_ret (v := .tuple #[.agg #[.slice none 0 0, .slice none 0 0, .slice none 0 0, .slice none 0 0, .int .i64 0], .int .i64 0, .int .i64 3]) (by simp [results, Try.results42, go_sem, r0, r1, r2, r3, r4]) rfl ⟨_, by rw [HV.out.1, HV.out.2.2], by rw [HV.out.2.1]; exact ans0 _ _, ?_⟩
    exact b2.trans (set5_below w2 _ _ _ _ _ _ _ (by omega))
  have HK : Hid (keyB ka kb = true) := hK
  have hbi := bucket_in ka kb n1.1
  have HBk : Hid (bucket ka kb M.heads.length = (keyN M ka kb : Int)) := by
    show _ = _
    unfold keyN; omega
  have hob : keyN M ka kb < M.heads.length := by unfold keyN; omega
  clear hK hbi
  go_wp2_with fail
  refine (bucket_ok _ _ _ _ HK.out n1.1 n1.2).mono ?_
  rw [HBk.out]
  rintro e w2 ⟨rfl, hb2⟩
  have b2 := b1.trans (hb2.mono b1.size)
  have HB2 : Hid (w2.heap[w.heap.size]? = _) := (hb2.block w.heap.size qs).trans HB1.out
  have HK2 : Hid (w2.heap[w.heap.size + 1]? = _) := (hb2.block (w.heap.size + 1) (lt_of_block HK1.out)).trans HK1.out
  have HR2 : Hid (w2.heap[w.heap.size + 2]? = _) := (hb2.block (w.heap.size + 2) (lt_of_block HR1.out)).trans HR1.out
  have HM2 : Hid (MapAt M w2 gm (allC M)) := MapAt.kept HMA.out (hb2.block gm lgm)
  clear hb2 b1 HB1 HR1 HMA HK1 q0 q1 q2 q3 q4 qs lgm p0 p1
  obtain ⟨p0, p1⟩ := keyf HK2.out
  obtain ⟨r0, r1, r2, r3, r4, g0, g1, g2, g3, g4, rs⟩ := boxf HR2.out
  have hl := MapAt.look HM2.out HK.out
  cases hh : hasK M (allC M) (ka, kb)
  · rw [hh] at hl
    have HV : Hid (E0 = 5 ∧ M1 = m0 ∧ N0 = 0) := HBad.out 5 (by decide) (by unfold withoutE; rw [if_neg (by simpa using HC.out), if_neg (by rw [HK.out]; simp), if_pos hh])
    clear HB2 HR2 HM2 HK2
    generalize whoK M (allC M) (ka, kb) = wk at *
    go_wp2
    refine bodyPost_ret (v := .tuple #[.agg #[.slice none 0 0, .slice none 0 0, .slice none 0 0, .slice none 0 0, .int .i64 0], .int .i64 0, .int .i64 5]) (by simp [results, Try.results42, go_sem, r0, r1, r2, r3, r4]) rfl ⟨_, by rw [HV.out.1, HV.out.2.2], by rw [HV.out.2.1]; exact ans0 _ _, ?_⟩
    exact b2.trans (set5_below w2 _ _ _ _ _ _ _ (by omega))
  rw [hh] at hl
  have HV : Hid (E0 = 0 ∧ M1 = cutK M ka kb ∧ N0 = whoK M (allC M) (ka, kb)) := by
    have h : withoutE M ka kb = 0 := by unfold withoutE; rw [if_neg (by simpa using HC.out), if_neg (by rw [HK.out]; simp), if_neg (by rw [hh]; simp)]
    exact ⟨HE0.out.trans h, HM1.out.trans (by unfold withoutM; rw [h, if_pos rfl]), HN0.out.trans (by unfold withoutN; rw [h, if_pos rfl])⟩
  have hwho := hokc.allSlots _ (whoK_mem hh).1
  have hah : aheadF (whoK M (allC M) (ka, kb)) (chL M (keyN M ka kb)) 0 0 ≤ M.slots.length := aheadF_le _ _ _ (fun x hx => (hok.chIn hob x hx).2) (by omega) (by omega)
  have HCK : Hid (cutK M ka kb = cutM M (keyN M ka kb) (aheadF (whoK M (allC M) (ka, kb)) (chL M (keyN M ka kb)) 0 0) (whoK M (allC M) (ka, kb))) := rfl
  obtain ⟨j, hjw⟩ : ∃ j : Nat, whoK M (allC M) (ka, kb) = j := ⟨(whoK M (allC M) (ka, kb)).toNat, by omega⟩
  rw [hjw] at hl hwho hah HV HCK
  have hj : j < M.slots.length := by omega
  clear hjw HE0 HM1 HN0 HBad hh hwho
  generalize hcb : keyN M ka kb = cb at *
  clear hcb
  obtain ⟨q0, q1, q2, q3, q4, f0, f1, f2, f3, f4, qs⟩ := boxf HB2.out
  have HA2 : Hid _ := HA.out.below b2
  clear g0 g1 g2 g3 g4
  go_wp2_with fail
  clear hl HM2 p0 p1 r0 r1 r2 r3 r4
  refine (copy_any M aS aH aF aL cS cH cF cL w2 HA2.out).mono ?_
  rintro e w5 ⟨gS, gH, gF, gL, kS, kH, kF, kL, rfl, c5, hb5⟩
  have b5 := b2.trans (hb5.mono b2.size)
  have HB5 : Hid (w5.heap[w.heap.size]? = _) := (hb5.block w.heap.size qs).trans HB2.out
  have HR5 : Hid (w5.heap[w.heap.size + 2]? = _) := (hb5.block (w.heap.size + 2) rs).trans HR2.out
  have t2 := rs
  have b2s := b2.size
  clear hb5 b2 HB2 HR2 HA2 HK2 q0 q1 q2 q3 q4 f0 f1 f2 f3 f4 qs rs
  have m3 := hok.few
  have hMn : Mine (set5 w5 w.heap.size (.slice gS M.slots.length kS) (.slice gH M.heads.length kH) (.slice gF M.free.length kF) (.slice gL M.locks.length kL) (.int .i64 M.now)) w.heap.size w2.heap.size gS gH gF gL kS kH kF kL M :=
    ⟨set5_block HB5.out _ _ _ _ _, c5.set5 HB5.out _ _ _ _ _, m1, m2, by omega, m4⟩
  have b6 := b5.trans (set5_below w5 w.heap.size w.heap.size (.slice gS M.slots.length kS) (.slice gH M.heads.length kH) (.slice gF M.free.length kF) (.slice gL M.locks.length kL) (.int .i64 M.now) (Nat.le_refl _))
  have HR6 : Hid ((set5 w5 w.heap.size (.slice gS M.slots.length kS) (.slice gH M.heads.length kH) (.slice gF M.free.length kF) (.slice gL M.locks.length kL) (.int .i64 M.now)).heap[w.heap.size + 2]? = _) := (set5_other (by omega)).trans HR5.out
  have HMn : Hid _ := hMn
  obtain ⟨q0, q1, q2, q3, q4, f0, f1, f2, f3, f4, qs⟩ := boxf HB5.out
  clear hMn HB5 HR5 c5
  go_wp2_with fail
  rw [show ((((w5.setCell ⟨w.heap.size, 0, none⟩ (.slice gS M.slots.length kS)).setCell ⟨w.heap.size, 1, none⟩ (.slice gH M.heads.length kH)).setCell ⟨w.heap.size, 2, none⟩ (.slice gF M.free.length kF)).setCell ⟨w.heap.size, 3, none⟩ (.slice gL M.locks.length kL)).setCell ⟨w.heap.size, 4, none⟩ (.int .i64 M.now) = set5 w5 w.heap.size (.slice gS M.slots.length kS) (.slice gH M.heads.length kH) (.slice gF M.free.length kF) (.slice gL M.locks.length kL) (.int .i64 M.now) from rfl]
  clear q0 q1 q2 q3 q4 f0 f1 f2 f3 f4 qs b5
  generalize set5 w5 w.heap.size (.slice gS M.slots.length kS) (.slice gH M.heads.length kH) (.slice gF M.free.length kF) (.slice gL M.locks.length kL) (.int .i64 M.now) = W6 at *
  have A6 : At W6 gS gH gF gL kS kH kF kL M := HMn.out.at
  refine (aheadOf_any M _ _ _ _ _ _ _ _ cb j W6 A6 hok hob).mono ?_
  rintro e w7 ⟨rfl, hb7⟩
  have hMi : Mine w7 w.heap.size w2.heap.size gS gH gF gL kS kH kF kL M := HMn.out.below hb7
  have HMi : Hid _ := hMi
  have b7 := b6.trans (hb7.mono b6.size)
  have HR7 : Hid (w7.heap[w.heap.size + 2]? = _) := (hb7.block (w.heap.size + 2) (lt_of_block HR6.out)).trans HR6.out
  clear hMi hb7 b6 HR6 HMn A6
  generalize hag : aheadF (j : Int) (chL M cb) 0 0 = ag at *
  clear hag
  go_wp2_with fail
  refine (cut_any M w7 _ _ gS gH gF gL kS kH kF kL j cb ag HMi.out hok hj hob hah).mono ?_
  rw [← HCK.out]
  rintro e w8 ⟨rfl, aS', aH', aF', aL', cS', cH', cF', cL', k8, A8, kept, hi8⟩
  have b8 : Below w.heap.size w w8 := b7.trans ⟨kept.os, kept.tape, kept.output, kept.size, fun k hk => kept.block k (by omega) (by omega)⟩
  have HR8 : Hid (w8.heap[w.heap.size + 2]? = _) := (kept.block (w.heap.size + 2) t2 (by omega)).trans HR7.out
  have HA8 : Hid _ := A8
  have HK8 : Hid _ := k8
  clear A8 kept HR7 HMi b7 k8
  obtain ⟨r0, r1, r2, r3, r4, g0, g1, g2, g3, g4, rs⟩ := boxf HR8.out
  obtain ⟨q0, q1, q2, q3, q4, f0, f1, f2, f3, f4, qs⟩ := boxf HK8.out
  clear HCK
  generalize hLM : cutK M ka kb = Mn at *
  clear hLM
  go_wp2
  refine bodyPost_ret (v := .tuple #[.agg #[.slice aS' Mn.slots.length cS', .slice aH' Mn.heads.length cH', .slice aF' Mn.free.length cF', .slice aL' Mn.locks.length cL', .int .i64 Mn.now], .int .i64 j, .int .i64 0]) (by simp [results, Try.results42, go_sem, r0, r1, r2, r3, r4]) rfl ⟨_, by rw [HV.out.1, HV.out.2.2], ?_, ?_⟩
  · rw [HV.out.2.1]
    have A9 := HA8.out.off hi8 t2 (fun k hk => set5_other (w := w8) (v0 := .slice aS' Mn.slots.length cS') (v1 := .slice aH' Mn.heads.length cH') (v2 := .slice aF' Mn.free.length cF') (v3 := .slice aL' Mn.locks.length cL') (v4 := .int .i64 Mn.now) hk)
    exact ⟨aS', aH', aF', aL', cS', cH', cF', cL', rfl, A9, hi8.mono b2s⟩
  · exact b8.trans (set5_below w8 _ _ _ _ _ _ _ (by omega))


end Go.Proofs.Ytdbilofhcadmoaa.mm
