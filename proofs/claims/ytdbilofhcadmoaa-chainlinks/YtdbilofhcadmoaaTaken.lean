/- The contract of Taken. -/
import Derived.Test.YtdbilofhcadmoaaHeld
namespace Go.Proofs.Ytdbilofhcadmoaa.mm
open Go.ChangeShapes Go.WideShapes Go.ChangeAt Go.RowKit Go.Joins
set_option linter.unusedVariables false

theorem keyf {w : World} {B : Nat} {v0 v1 : Value} {t : TypeId} (h : w.heap[B]? = some (.cells #[v0, v1] t (0, 0))) : w.cell? ⟨B, 0, none⟩ = some v0 ∧ w.cell? ⟨B, 1, none⟩ = some v1 :=
  ⟨by rw [cell_of_block h]; rfl, by rw [cell_of_block h]; rfl⟩

theorem last_in {M : Mm} (h : Ok M) (hF : 0 < M.free.length) : 0 ≤ lastF M ∧ lastF M < M.slots.length ∧ refsM M (lastF M) = 0 ∧ lastF M ∈ M.free := by
  have hl : lastF M = M.free[M.free.length - 1] := by
    have : M.free.length - 1 < M.free.length := by omega
    simp [lastF, List.getD_eq_getElem?_getD, this]
  have hm : lastF M ∈ M.free := by rw [hl]; exact List.getElem_mem _
  have := (freeOk_iff _ _).1 (h.free _ hm)
  exact ⟨this.1, this.2.1, this.2.2, hm⟩

set_option maxHeartbeats 3200000 in
theorem taken_any (M : Mm) (v : Value) (ka kb u : Int) (w : World) (lo : Nat) (A : Ans lo w v M) :
    Calls Try.prog 21 #[v, .agg #[.int .i64 ka, .int .i64 kb], .int .i64 u] w fun e w' => ∃ v, e = .returned (.tuple #[v, .int .i64 (takenN M ka kb u), .int .i64 (takenE M ka kb u)]) ∧ Ans w.heap.size w' v (takenM M ka kb u) ∧ Below w.heap.size w w' := by
  obtain ⟨aS, aH, aF, aL, cS, cH, cF, cL, rfl, A, -⟩ := A
  have m1 := A.s.max; have m2 := A.h.max; have m4 := A.l.max
  have n1 : M.slots.length ≤ 9223372036854775807 := by omega
  obtain ⟨E0, hE0⟩ : ∃ E0, E0 = takenE M ka kb u := ⟨_, rfl⟩
  obtain ⟨M1, hM1⟩ : ∃ M1, M1 = takenM M ka kb u := ⟨_, rfl⟩
  obtain ⟨N0, hN0⟩ : ∃ N0, N0 = takenN M ka kb u := ⟨_, rfl⟩
  rw [← hE0, ← hM1, ← hN0]
  have HE0 : Hid _ := hE0
  have HM1 : Hid _ := hM1
  have HN0 : Hid _ := hN0
  clear hE0 hM1 hN0
  obtain ⟨o1, ho1⟩ : ∃ o : Obj, o = .cells #[.slice aS M.slots.length cS, .slice aH M.heads.length cH, .slice aF M.free.length cF, .slice aL M.locks.length cL, .int .i64 M.now] 29 := ⟨_, rfl⟩
  obtain ⟨o3, ho3⟩ : ∃ o : Obj, o = .cells #[.int .i64 ka, .int .i64 kb] 37 := ⟨_, rfl⟩
  obtain ⟨o2, ho2⟩ : ∃ o : Obj, o = .cells #[.slice none 0 0, .slice none 0 0, .slice none 0 0, .slice none 0 0, .int .i64 0] 29 := ⟨_, rfl⟩
  have b0 : Below w.heap.size w (((w.alloc o1).alloc o3).alloc o2) := below_alloc3 w o1 o3 o2
  have HB0 : Hid ((((w.alloc o1).alloc o3).alloc o2).heap[w.heap.size]? = some o1) := by show _ = _; rw [Below.heap_alloc _ _ _ (by simp; omega), Below.heap_alloc _ _ _ (by simp), heap_alloc_new]
  have HK0 : Hid ((((w.alloc o1).alloc o3).alloc o2).heap[w.heap.size + 1]? = some o3) := by
    have := heap_alloc_new (w.alloc o1) o3
    rw [show (w.alloc o1).heap.size = w.heap.size + 1 by simp] at this
    show _ = _
    rw [Below.heap_alloc _ _ _ (by simp), this]
  have HR0 : Hid ((((w.alloc o1).alloc o3).alloc o2).heap[w.heap.size + 2]? = some o2) := by
    have := heap_alloc_new ((w.alloc o1).alloc o3) o2
    rwa [show ((w.alloc o1).alloc o3).heap.size = w.heap.size + 2 by simp] at this
  have HA0 : Hid _ := A.below b0
  clear A
  go_enter Try.func21, Try.ntmps21
  go_wp2_with fail
  rw [← ho1, ← ho2, ← ho3]
  generalize ((w.alloc o1).alloc o3).alloc o2 = W0 at *
  subst ho1 ho2 ho3
  refine (check_any M aS aH aF aL cS cH cF cL W0 HA0.out).mono ?_
  rintro e w1 ⟨rfl, hb1⟩
  have b1 := b0.trans (hb1.mono b0.size)
  have HB1 : Hid _ := (hb1.block w.heap.size (lt_of_block HB0.out)).trans HB0.out
  have HK1 : Hid _ := (hb1.block (w.heap.size + 1) (lt_of_block HK0.out)).trans HK0.out
  have HR1 : Hid _ := (hb1.block (w.heap.size + 2) (lt_of_block HR0.out)).trans HR0.out
  have HA1 : Hid _ := HA0.out.below hb1
  clear hb1 b0 HB0 HK0 HR0 HA0
  by_cases hE : chk M = 0
  rotate_left
  · have HV : Hid (E0 = chk M ∧ M1 = m0 ∧ N0 = 0) := by
      have h : takenE M ka kb u = chk M := by unfold takenE; rw [if_pos hE]
      have hn : takenE M ka kb u ≠ 0 := by rw [h]; exact hE
      exact ⟨HE0.out.trans h, HM1.out.trans (by unfold takenM; rw [if_neg hn]), HN0.out.trans (by unfold takenN; rw [if_neg hn])⟩
    have h' : (chk M != 0) = true := by simpa using hE
    obtain ⟨r0, r1, r2, r3, r4, g0, g1, g2, g3, g4, rs⟩ := boxf HR1.out
    clear HB1 HK1 HR1 HA1
    generalize chk M = E at *
    go_wp2
    refine bodyPost_ret (v := .tuple #[.agg #[.slice none 0 0, .slice none 0 0, .slice none 0 0, .slice none 0 0, .int .i64 0], .int .i64 0, .int .i64 E]) (by simp [results, Try.results21, go_sem, r0, r1, r2, r3, r4]) rfl ⟨_, by rw [HV.out.1, HV.out.2.2], by rw [HV.out.2.1]; exact ans0 _ _, ?_⟩
    exact b1.trans (set5_below w1 _ _ _ _ _ _ _ (by omega))
  have HC : Hid (chk M = 0) := hE
  rw [hE]
  clear hE
  obtain ⟨k0, k1⟩ := keyf HK1.out
  go_wp2_with fail
  refine (kcheck_any ka kb w1).mono ?_
  rintro e w2 ⟨rfl, hb2⟩
  have b2 := b1.trans (hb2.mono b1.size)
  have HB2 : Hid _ := (hb2.block w.heap.size (lt_of_block HB1.out)).trans HB1.out
  have HK2 : Hid _ := (hb2.block (w.heap.size + 1) (lt_of_block HK1.out)).trans HK1.out
  have HR2 : Hid _ := (hb2.block (w.heap.size + 2) (lt_of_block HR1.out)).trans HR1.out
  have HA2 : Hid _ := HA1.out.below hb2
  clear hb2 b1 HB1 HK1 HR1 HA1 k0 k1
  cases hK : keyB ka kb
  · have HV : Hid (E0 = 3 ∧ M1 = m0 ∧ N0 = 0) := by
      have h : takenE M ka kb u = 3 := by unfold takenE; rw [if_neg (by simpa using HC.out), if_pos hK]
      have hn : takenE M ka kb u ≠ 0 := by rw [h]; decide
      exact ⟨HE0.out.trans h, HM1.out.trans (by unfold takenM; rw [if_neg hn]), HN0.out.trans (by unfold takenN; rw [if_neg hn])⟩
    obtain ⟨r0, r1, r2, r3, r4, g0, g1, g2, g3, g4, rs⟩ := boxf HR2.out
    clear HB2 HK2 HR2 HA2
    go_wp2
    refine bodyPost_ret (v := .tuple #[.agg #[.slice none 0 0, .slice none 0 0, .slice none 0 0, .slice none 0 0, .int .i64 0], .int .i64 0, .int .i64 3]) (by simp [results, Try.results21, go_sem, r0, r1, r2, r3, r4]) rfl ⟨_, by rw [HV.out.1, HV.out.2.2], by rw [HV.out.2.1]; exact ans0 _ _, ?_⟩
    exact b2.trans (set5_below w2 _ _ _ _ _ _ _ (by omega))
  have HK : Hid (keyB ka kb = true) := hK
  clear hK
  rw [if_pos rfl]
  cases hU : inB u 0 2000000
  · have HV : Hid (E0 = 3 ∧ M1 = m0 ∧ N0 = 0) := by
      have h : takenE M ka kb u = 3 := by unfold takenE; rw [if_neg (by simpa using HC.out), if_neg (by rw [HK.out]; simp), if_pos hU]
      have hn : takenE M ka kb u ≠ 0 := by rw [h]; decide
      exact ⟨HE0.out.trans h, HM1.out.trans (by unfold takenM; rw [if_neg hn]), HN0.out.trans (by unfold takenN; rw [if_neg hn])⟩
    obtain ⟨r0, r1, r2, r3, r4, g0, g1, g2, g3, g4, rs⟩ := boxf HR2.out
    clear HB2 HK2 HR2 HA2
    go_wp2_with (go_at_call 56; refine (within_any _ _ _ _).mono ?_; rintro e w1 ⟨rfl, rfl⟩)
    refine bodyPost_ret (v := .tuple #[.agg #[.slice none 0 0, .slice none 0 0, .slice none 0 0, .slice none 0 0, .int .i64 0], .int .i64 0, .int .i64 3]) (by simp [results, Try.results21, go_sem, r0, r1, r2, r3, r4]) rfl ⟨_, by rw [HV.out.1, HV.out.2.2], by rw [HV.out.2.1]; exact ans0 _ _, ?_⟩
    exact b2.trans (set5_below w2 _ _ _ _ _ _ _ (by omega))
  have m3 := ((chk_zero M).1 HC.out).few
  obtain ⟨q0, q1, q2, q3, q4, f0, f1, f2, f3, f4, qs⟩ := boxf HB2.out
  go_wp2_with (go_at_call 56; refine (within_any _ _ _ _).mono ?_; rintro e w1 ⟨rfl, rfl⟩)
  have HU : Hid (inB u 0 2000000 = true) := hU
  clear hU
  refine (copy_any M aS aH aF aL cS cH cF cL w2 HA2.out).mono ?_
  rintro e w3 ⟨gS, gH, gF, gL, kS, kH, kF, kL, rfl, c3, hb3⟩
  have b3 := b2.trans (hb3.mono b2.size)
  have HB3 : Hid _ := (hb3.block w.heap.size (lt_of_block HB2.out)).trans HB2.out
  have HK3 : Hid _ := (hb3.block (w.heap.size + 1) (lt_of_block HK2.out)).trans HK2.out
  have HR3 : Hid _ := (hb3.block (w.heap.size + 2) (lt_of_block HR2.out)).trans HR2.out
  have t2 := lt_of_block HR2.out
  have b2s := b2.size
  clear hb3 b2 HB2 HK2 HR2 HA2 q0 q1 q2 q3 q4 f0 f1 f2 f3 f4 qs
  have hM : Mine (set5 w3 w.heap.size (.slice gS M.slots.length kS) (.slice gH M.heads.length kH) (.slice gF M.free.length kF) (.slice gL M.locks.length kL) (.int .i64 M.now)) w.heap.size w2.heap.size gS gH gF gL kS kH kF kL M :=
    ⟨set5_block HB3.out _ _ _ _ _, c3.set5 HB3.out _ _ _ _ _, m1, m2, by omega, m4⟩
  have b4 := b3.trans (set5_below w3 w.heap.size w.heap.size (.slice gS M.slots.length kS) (.slice gH M.heads.length kH) (.slice gF M.free.length kF) (.slice gL M.locks.length kL) (.int .i64 M.now) (Nat.le_refl _))
  have HR4 : Hid ((set5 w3 w.heap.size (.slice gS M.slots.length kS) (.slice gH M.heads.length kH) (.slice gF M.free.length kF) (.slice gL M.locks.length kL) (.int .i64 M.now)).heap[w.heap.size + 2]? = _) := (set5_other (by omega)).trans HR3.out
  have HK4 : Hid ((set5 w3 w.heap.size (.slice gS M.slots.length kS) (.slice gH M.heads.length kH) (.slice gF M.free.length kF) (.slice gL M.locks.length kL) (.int .i64 M.now)).heap[w.heap.size + 1]? = _) := (set5_other (by omega)).trans HK3.out
  have HM : Hid _ := hM
  obtain ⟨q0, q1, q2, q3, q4, f0, f1, f2, f3, f4, qs⟩ := boxf HB3.out
  obtain ⟨k0, k1⟩ := keyf HK3.out
  have kne : w.heap.size + 1 ≠ w.heap.size := by omega
  clear hM HB3 HR3 HK3 c3
  go_wp2_with fail
  rw [show ((((w3.setCell ⟨w.heap.size, 0, none⟩ (.slice gS M.slots.length kS)).setCell ⟨w.heap.size, 1, none⟩ (.slice gH M.heads.length kH)).setCell ⟨w.heap.size, 2, none⟩ (.slice gF M.free.length kF)).setCell ⟨w.heap.size, 3, none⟩ (.slice gL M.locks.length kL)).setCell ⟨w.heap.size, 4, none⟩ (.int .i64 M.now) = set5 w3 w.heap.size (.slice gS M.slots.length kS) (.slice gH M.heads.length kH) (.slice gF M.free.length kF) (.slice gL M.locks.length kL) (.int .i64 M.now) from rfl]
  clear q0 q1 q2 q3 q4 f0 f1 f2 f3 f4 qs b3 k0 k1
  generalize set5 w3 w.heap.size (.slice gS M.slots.length kS) (.slice gH M.heads.length kH) (.slice gF M.free.length kF) (.slice gL M.locks.length kL) (.int .i64 M.now) = W4 at *
  by_cases hF : M.free.length = 0
  · have HV : Hid (E0 = 7 ∧ M1 = m0 ∧ N0 = 0) := by
      have h : takenE M ka kb u = 7 := by unfold takenE; rw [if_neg (by simpa using HC.out), if_neg (by rw [HK.out]; simp), if_neg (by rw [HU.out]; simp), if_pos hF]
      have hn : takenE M ka kb u ≠ 0 := by rw [h]; decide
      exact ⟨HE0.out.trans h, HM1.out.trans (by unfold takenM; rw [if_neg hn]), HN0.out.trans (by unfold takenN; rw [if_neg hn])⟩
    have hbx := HM.out.box
    rw [hF] at hbx
    refine (take_no W4 w.heap.size _ _ _ _ _ _ ka kb u hbx).mono ?_
    rintro e w5 ⟨rfl, hb5⟩
    have b5 := b4.trans (hb5.mono b4.size)
    have HR5 : Hid _ := (hb5.block (w.heap.size + 2) (lt_of_block HR4.out)).trans HR4.out
    obtain ⟨r0, r1, r2, r3, r4, g0, g1, g2, g3, g4, rs⟩ := boxf HR5.out
    clear HR4 HM hb5 hbx hF HR5 HK4
    go_wp2
    refine bodyPost_ret (v := .tuple #[.agg #[.slice none 0 0, .slice none 0 0, .slice none 0 0, .slice none 0 0, .int .i64 0], .int .i64 0, .int .i64 7]) (by simp [results, Try.results21, go_sem, r0, r1, r2, r3, r4]) rfl ⟨_, by rw [HV.out.1, HV.out.2.2], by rw [HV.out.2.1]; exact ans0 _ _, ?_⟩
    exact b5.trans (set5_below w5 _ _ _ _ _ _ _ (by omega))
  · obtain ⟨i0, i1, -, -⟩ := last_in ((chk_zero M).1 HC.out) (by omega)
    have HV : Hid (E0 = 0 ∧ M1 = takeM M ka kb u ∧ N0 = lastF M) := by
      have : takenE M ka kb u = 0 := by unfold takenE; rw [if_neg (by simpa using HC.out), if_neg (by rw [HK.out]; simp), if_neg (by rw [HU.out]; simp), if_neg hF]
      exact ⟨HE0.out.trans this, HM1.out.trans (by unfold takenM; rw [this, if_pos rfl]), HN0.out.trans (by unfold takenN; rw [this, if_pos rfl])⟩
    refine (take_any M W4 _ _ gS gH gF gL kS kH kF kL ka kb u HM.out (by omega) i0 i1).mono ?_
    rintro e w5 ⟨rfl, aS', aH', aF', aL', cS', cH', cF', cL', k5, A5, kept, hi5⟩
    have b5 : Below w.heap.size w w5 := b4.trans ⟨kept.os, kept.tape, kept.output, kept.size, fun k hk => kept.block k (by omega) (by omega)⟩
    have HR5 : Hid _ := (kept.block (w.heap.size + 2) t2 (by omega)).trans HR4.out
    have HA5 : Hid _ := A5
    have HK5 : Hid _ := k5
    clear A5 kept HR4 HM b4 k5 HK4
    obtain ⟨r0, r1, r2, r3, r4, g0, g1, g2, g3, g4, rs⟩ := boxf HR5.out
    obtain ⟨q0, q1, q2, q3, q4, f0, f1, f2, f3, f4, qs⟩ := boxf HK5.out
    generalize hMn : takeM M ka kb u = Mn at *
    generalize hLn : lastF M = Ln at *
    clear hMn hLn
    go_wp2
    refine bodyPost_ret (v := .tuple #[.agg #[.slice aS' Mn.slots.length cS', .slice aH' Mn.heads.length cH', .slice aF' Mn.free.length cF', .slice aL' Mn.locks.length cL', .int .i64 Mn.now], .int .i64 Ln, .int .i64 0]) (by simp [results, Try.results21, go_sem, r0, r1, r2, r3, r4]) rfl ⟨_, by rw [HV.out.1, HV.out.2.2], ?_, ?_⟩
    · rw [HV.out.2.1]
      have A6 := HA5.out.off hi5 t2 (fun k hk => set5_other (w := w5) (v0 := .slice aS' Mn.slots.length cS') (v1 := .slice aH' Mn.heads.length cH') (v2 := .slice aF' Mn.free.length cF') (v3 := .slice aL' Mn.locks.length cL') (v4 := .int .i64 Mn.now) hk)
      exact ⟨aS', aH', aF', aL', cS', cH', cF', cL', rfl, A6, hi5.mono b2s⟩
    · exact b5.trans (set5_below w5 _ _ _ _ _ _ _ (by omega))


end Go.Proofs.Ytdbilofhcadmoaa.mm
