/- SweepAlone's walk: a Sweep that goes on alone leaves what is not over, a List tells its chain's keys. -/
import Derived.Test.YtdbilofhcadmoacA01
import Derived.Test.YtdbilofhcadmoacC24
import Derived.Test.YtdbilofhcadmoacC05
import Derived.Test.YtdbilofhcadmoacC21
import Derived.Deep.QuietTactic
import Derived.BigQuiet
import Derived.BigRegion
namespace Go.Proofs.Ytdbilofhcadmoac.mm
open Go.ChangeShapes Go.WideShapes Go.ChangeAt Go.RowKit Go.Joins Go.Deep Go.Sort
set_option maxRecDepth 100000
set_option linter.unusedVariables false

def actV (x : Nat → Value) : Act := ⟨#[x 0, x 1, x 2, x 3, x 4, x 5, x 6, x 7, x 8, x 9, x 10, x 11, x 12, x 13, x 14, x 15, x 16, x 17, x 18, x 19, x 20, x 21, x 22, x 23, x 24, x 25, x 26, x 27, x 28, x 29, x 30, x 31, x 32, x 33, x 34, x 35, x 36, x 37, x 38, x 39, x 40, x 41, x 42, x 43, x 44, x 45, x 46, x 47, x 48, x 49, x 50, x 51, x 52, x 53, x 54, x 55, x 56, x 57, x 58, x 59, x 60, x 61, x 62, x 63, x 64, x 65, x 66, x 67, x 68, x 69, x 70, x 71, x 72, x 73, x 74, x 75, x 76, x 77, x 78, x 79, x 80, x 81, x 82, x 83, x 84, x 85, x 86, x 87, x 88, x 89, x 90, x 91, x 92, x 93, x 94, x 95, x 96, x 97, x 98, x 99, x 100, x 101, x 102, x 103, x 104, x 105, x 106, x 107, x 108, x 109, x 110, x 111, x 112, x 113, x 114, x 115, x 116, x 117, x 118, x 119, x 120, x 121, x 122, x 123, x 124, x 125, x 126, x 127, x 128, x 129, x 130, x 131, x 132, x 133, x 134, x 135, x 136, x 137, x 138, x 139, x 140, x 141, x 142, x 143, x 144, x 145, x 146, x 147, x 148], []⟩
theorem IRow.fine {w w' : World} {Z : Nat → Prop} {ao : Option Addr} {cap : Nat} {l : List Int} (r : IRow w ao cap l) (hf : Fine w w' Z) (hz : ∀ ad, ao = some ad → ¬ Z ad.block) : IRow w' ao cap l := by
  refine ⟨r.le, r.max, r.nil, ?_⟩
  rcases r.at_ with h | ⟨b, o, h, hc⟩
  · exact .inl h
  · refine .inr ⟨b, o, h, fun i hi => ?_⟩
    have lt := cell_lt (hc i hi)
    rw [World.cell?_of_block (a := ⟨b, o + i, none⟩) (hf.block b lt (hz _ h))]
    exact hc i hi

set_option maxHeartbeats 25600000 in
theorem sweepAlone_any (M : Mm) (b : Int) (v : Value) (w : World) (A0 : Ans 0 w v M) :
    Calls Try.prog 4 #[v, .int .i64 b] w fun e w' => e = .returned (.bool true) ∧ Below w.heap.size w w' := by
  have HA : Hid (Ans 0 w v M) := A0
  obtain ⟨aS, aH, aF, aL, cS, cH, cF, cL, rfl⟩ := A0.form
  have HMx : Hid (M.slots.length * 48 ≤ 140737488351232 ∧ M.heads.length * 8 ≤ 140737488351232 ∧ M.free.length * 8 ≤ 140737488351232 ∧ M.locks.length * 8 ≤ 140737488351232) := ⟨A0.at_.s.max, A0.at_.h.max, A0.at_.f.max, A0.at_.l.max⟩
  obtain ⟨om, hom⟩ : ∃ o : Obj, o = .cells #[.slice aS M.slots.length cS, .slice aH M.heads.length cH, .slice aF M.free.length cF, .slice aL M.locks.length cL, .int .i64 M.now] 25 := ⟨_, rfl⟩
  have HM0 : Hid ((w.alloc om).heap[w.heap.size]? = some om) := heap_alloc_new _ _
  have HBm : Hid (∀ W : World, W.heap[w.heap.size]? = some om → W.heap[w.heap.size]? = some (.cells #[.slice aS M.slots.length cS, .slice aH M.heads.length cH, .slice aF M.free.length cF, .slice aL M.locks.length cL, .int .i64 M.now] 25 (0, 0))) := fun W E => hom ▸ E
  have HB0 : Hid (Below w.heap.size w (w.alloc om)) := one_below w om
  obtain ⟨L, hL⟩ : ∃ L, flowsM M = L := ⟨_, rfl⟩
  obtain ⟨E0, hE⟩ : ∃ E, chkC M = E := ⟨_, rfl⟩
  obtain ⟨l, hl⟩ : ∃ l, slotsCL M b = l := ⟨_, rfl⟩
  obtain ⟨E1, hE1⟩ : ∃ E, slotsCE M b = E := ⟨_, rfl⟩
  have HL : Hid (flowsM M = L) := hL
  have HE : Hid (chkC M = E0) := hE
  have Hl : Hid (slotsCL M b = l) := hl
  have HE1 : Hid (slotsCE M b = E1) := hE1
  clear A0 hL hE hl hE1
  go_enter Try.func4, Try.ntmps4
  go_wp2_with fail
  rw [← hom]
  generalize w.alloc om = W0 at *
  clear hom
  have c1 := flows_own M aS aH aF aL cS cH cF cL W0 (HA.out.at_.below HB0.out)
  rw [HL.out, HE.out] at c1
  refine c1.mono ?_
  clear c1
  rintro e w1 ⟨ao, cap, rfl, ho1, hb1⟩
  have HB1 : Hid (Below w.heap.size w w1) := HB0.out.trans (hb1.mono HB0.out.size)
  have HM1 : Hid (w1.heap[w.heap.size]? = some om) := (hb1.block _ (lt_of_block HM0.out)).trans HM0.out
  have HO1 : Hid (w1.ownsRow w.heap.size 56 4 (.slice ao L.length cap) L.length (encF L)) := ownsRow_le ho1 HB0.out.size
  clear HB0 HM0 ho1 hb1
  obtain ⟨q0, q1, q2, q3, q4, -, -, -, -, -, qs⟩ := boxf (HBm.out _ HM1.out)
  go_wp2_with fail
  clear q0 q1 q2 q3 q4 qs
  have c1 := chainSlots_hi M aS aH aF aL cS cH cF cL b w1 (HA.out.at_.below HB1.out)
  rw [Hl.out, HE1.out] at c1
  refine c1.mono ?_
  clear c1
  rintro e w2 ⟨ao2, cap2, rfl, ir2, hi2, hb2⟩
  obtain ⟨ol, hol⟩ : ∃ o : Obj, o = .cells #[.slice ao2 l.length cap2] 23 := ⟨_, rfl⟩
  have HBl : Hid (∀ W : World, W.heap[w2.heap.size]? = some ol → W.heap[w2.heap.size]? = some (.cells #[.slice ao2 l.length cap2] 23 (0, 0))) := fun W E => hol ▸ E
  have hb12 : Below w1.heap.size w1 (w2.alloc ol) := hb2.alloc hb2.size ol
  have HBB : Hid (Below w.heap.size w (w2.alloc ol)) := HB1.out.trans (hb12.mono HB1.out.size)
  have HMB : Hid ((w2.alloc ol).heap[w.heap.size]? = some om) := (hb12.block _ (lt_of_block HM1.out)).trans HM1.out
  have HLB : Hid ((w2.alloc ol).heap[w2.heap.size]? = some ol) := heap_alloc_new _ _
  have HOB : Hid ((w2.alloc ol).ownsRow w.heap.size 56 4 (.slice ao L.length cap) L.length (encF L) ∧ ∀ ad, ao = some ad → ad.block < w1.heap.size) := ⟨own_same HO1.out (fun g hg => hb12.block g (HO1.out.lt g hg).2), fun ad e => by subst e; exact (HO1.out.lt ad.block rfl).2⟩
  have HIB : Hid (IRow (w2.alloc ol) ao2 cap2 l ∧ ∀ ad, ao2 = some ad → w1.heap.size ≤ ad.block) := ⟨ir2.below (one_below _ _), hi2⟩
  have HPQ : Hid (w.heap.size < w1.heap.size ∧ w1.heap.size ≤ w2.heap.size) := ⟨lt_of_block HM1.out, hb2.size⟩
  clear HB1 HM1 HO1 ir2 hi2 hb2 hb12
  go_wp2_with fail
  rw [← hol]
  generalize w2.alloc ol = WB at *
  generalize w2.heap.size = Q at *
  clear hol
  refine (swept_any WB).mono ?_
  rintro e w3 ⟨rfl, hb3⟩
  have HC3 : Hid (Below WB.heap.size WB w3) := hb3
  clear hb3
  by_cases hz : E0 = 0
  rotate_left
  · have hq : (E0 == 0) = false := by simpa using hz
    have hq2 : (E0 != 0) = true := by simpa using hz
    clear hz
    go_wp2_with fail
    refine (swept_any w3).mono ?_
    rintro e w9 ⟨rfl, hb9⟩
    have HC9 : Hid (Below WB.heap.size WB w9) := HC3.out.trans (hb9.mono HC3.out.size)
    go_wp2
    go_ret
    exact ⟨rfl, HBB.out.trans (HC9.out.mono HBB.out.size)⟩
  subst hz
  by_cases hz : E1 = 0
  rotate_left
  · have hq : (E1 == 0) = false := by simpa using hz
    have hq2 : (E1 != 0) = true := by simpa using hz
    clear hz
    go_wp2_with fail
    refine (swept_any w3).mono ?_
    rintro e w9 ⟨rfl, hb9⟩
    have HC9 : Hid (Below WB.heap.size WB w9) := HC3.out.trans (hb9.mono HC3.out.size)
    go_wp2
    go_ret
    exact ⟨rfl, HBB.out.trans (HC9.out.mono HBB.out.size)⟩
  subst hz
  have HOk : Hid (OkC M) := (chkC_zero M).1 HE.out
  have HL' : Hid (L = flowsOf M) := HL.out.symm.trans (flowsM_of HOk.out)
  obtain ⟨bn, hbn, hbl, hll⟩ := slots_in HE1.out
  subst hbn
  have HLl : Hid (l = chL M bn) := Hl.out.symm.trans hll
  have HBn : Hid (bn < M.heads.length) := hbl
  clear HE HL Hl HE1 hll hbl
  have HAt : Hid (∀ W : World, Below WB.heap.size WB W → At W aS aH aF aL cS cH cF cL M) := fun W hb => (HA.out.at_.below HBB.out).below hb
  obtain ⟨q0, q1, q2, q3, q4, -, -, -, -, -, qs⟩ := boxf (HBm.out _ ((HC3.out.block _ (lt_of_block HMB.out)).trans HMB.out))
  go_wp2_with fail
  clear q0 q1 q2 q3 q4 qs
  refine (hasI 16 (fun args W => by kernel_rfl) litS1 aL cL M.locks w3 (HAt.out _ HC3.out).l).mono ?_
  rintro e w4 ⟨bb, rfl, hbb, hb4⟩
  have HC4 : Hid (Below WB.heap.size WB w4) := HC3.out.trans (hb4.mono HC3.out.size)
  clear HC3 hb4
  cases bb
  rotate_left
  · clear hbb
    go_wp2
    go_ret
    exact ⟨rfl, HBB.out.trans (HC4.out.mono HBB.out.size)⟩
  have HLo : Hid (∀ x ∈ M.locks, x = -1) := hbb rfl
  clear hbb
  obtain ⟨X, g, hgo, hge, hXo, hXf, hgn⟩ := sw_all HOk.out HLo.out HBn.out
  obtain ⟨h, hho, hhe, hhk⟩ := li_all HOk.out HLo.out HBn.out
  have HRunS : Hid (run swF (swM 0) (3 * M.slots.length + 5) M (newF ⟨4, 0, 0, 0, bn, 0⟩) = (X, g, true)) := goes_run hgo
  have HRunL : Hid (run swF (swM 0) (2 * M.slots.length + 5) M (newF ⟨5, 0, 0, 0, bn, 0⟩) = (M, h, true)) := goes_run hho
  have HGs : Hid (SwG 0 M (newF ⟨4, 0, 0, 0, bn, 0⟩)) := ⟨⟨_, X, g, hgo⟩, fit_sw HOk.out.ok (.inl rfl) HBn.out, .inl rfl⟩
  have HGl : Hid (SwG 0 M (newF ⟨5, 0, 0, 0, bn, 0⟩)) := ⟨⟨_, M, h, hho⟩, fit_sw HOk.out.ok (.inr rfl) HBn.out, .inr rfl⟩
  have HXo : Hid (OkC X) := hXo
  have HXf : Hid (flowsOf X = L.filter (fun f => !(decide (f.unt ≤ M.now) && l.contains f.slot))) := by
    show _ = _
    rw [HL'.out, HLl.out]
    exact hXf
  have HGn : Hid (g.n = (L.length : Int) - ((L.filter (fun f => !(decide (f.unt ≤ M.now) && l.contains f.slot))).length : Nat)) := by
    show _ = _
    rw [← HXf.out, hgn, HL'.out]
  have HGe : Hid (g.e = 0 ∧ h.e = 0) := ⟨hge, hhe⟩
  have HHk : Hid (h.keys = l.map (keyAt M)) := by
    show _ = _
    rw [HLl.out]
    exact hhk
  have HNs : Hid (M.slots.length ≤ 12 ∧ M.free.length ≤ 12) := ⟨HOk.out.ok.ns, free_few HOk.out.ok⟩
  have hns : M.slots.length ≤ 12 := HNs.out.1
  clear hgo hge hXo hXf hgn hho hhe hhk
  go_wp2_with fail
  rename_i K0 hK0
  have h2 : w.heap.size < w4.heap.size := lt_of_block ((HC4.out.block _ (lt_of_block HMB.out)).trans HMB.out)
  refine wp_region_at (by kernel_rfl) actV rfl (JtV w4 M (.agg #[.slice aS M.slots.length cS, .slice aH M.heads.length cH, .slice aF M.free.length cF, .slice aL M.locks.length cL, .int .i64 M.now])) ?_ ?_ ?_
  · refine ⟨by simp, fun k _ => rfl, fun _ _ => False, ?_⟩
    have e : (fun i => (Array.replicate 8 false).getD i false) = fun _ => false := by
      funext i
      by_cases h : i < 8 <;> simp [Array.getD_eq_getD_getElem?, h]
    show TwV w4 M _ (fun i => (Array.replicate 8 false).getD i false) _ _ _
    rw [e]
    exact TwV.start (Below.refl _ _).drew
  · intro listed x W i hi hJ
    obtain ⟨hi1, hi2, o, ho, hpre⟩ := ready_spec hi
    clear hi
    have hi1' : i < 8 := hi1
    clear hi1
    have hJ' := hJ
    obtain ⟨hsz, hout, Z, T⟩ := hJ'
    have hcw : Below WB.heap.size WB W := HC4.out.trans (T.bl.mono HC4.out.size)
    obtain ⟨q0, q1, q2, q3, q4, -, -, -, -, -, qs⟩ := boxf (HBm.out W ((hcw.block _ (lt_of_block HMB.out)).trans HMB.out))
    have x2 : x 2 = .pointer (some ⟨w.heap.size, 0, none⟩) := hout 2 (by decide)
    obtain rfl | rfl | rfl | rfl | rfl | rfl | rfl | rfl : i = 0 ∨ i = 1 ∨ i = 2 ∨ i = 3 ∨ i = 4 ∨ i = 5 ∨ i = 6 ∨ i = 7 := by omega
    · exact wpOp_val rfl rfl (v := .agg #[.slice aS M.slots.length cS, .slice aH M.heads.length cH, .slice aF M.free.length cF, .slice aL M.locks.length cL, .int .i64 M.now]) (w' := W) (by simp [execOp, go_sem, (show (actV x).tmps[2]?.getD undef = _ from x2), q0, q1, q2, q3, q4]) ⟨updv x 45 _, rfl, hJ.next 0 (by omega) (updv_outV (by decide)) T.a0⟩
    · have g0 : listed.getD 0 false = true := hpre ⟨0, .data⟩ (by simp at ho; subst ho; simp) rfl
      have x18 := T.p0 g0
      refine wpOp_in rfl rfl (f := 8) (args := #[.agg #[.slice aS M.slots.length cS, .slice aH M.heads.length cH, .slice aF M.free.length cF, .slice aL M.locks.length cL, .int .i64 M.now]]) (by simp [execOp, go_sem, (show (actV x).tmps[45]?.getD undef = _ from x18)]) ((ownMem_any M aS aH aF aL cS cH cF cL W (HAt.out _ hcw)).mono ?_)
      rintro e w3 ⟨xS, xH, xF, xL, kS, kH, kF, kL, rfl, R3, hb3⟩
      exact ⟨_, rfl, updv x 46 _, rfl, hJ.next 1 (by omega) (updv_outV (by decide)) (T.a1 (getD_ft hi2) hb3 ⟨_, _, _, _, _, _, _, _, rfl, R3, fun _ _ => trivial⟩)⟩
    · exact wpOp_val rfl rfl (v := .agg #[.slice aS M.slots.length cS, .slice aH M.heads.length cH, .slice aF M.free.length cF, .slice aL M.locks.length cL, .int .i64 M.now]) (w' := W) (by simp [execOp, go_sem, (show (actV x).tmps[2]?.getD undef = _ from x2), q0, q1, q2, q3, q4]) ⟨updv x 47 _, rfl, hJ.next 2 (by omega) (updv_outV (by decide)) T.a2⟩
    · have g2 : listed.getD 2 false = true := hpre ⟨2, .data⟩ (by simp at ho; subst ho; simp) rfl
      have x20 := T.p2 g2
      refine wpOp_in rfl rfl (f := 8) (args := #[.agg #[.slice aS M.slots.length cS, .slice aH M.heads.length cH, .slice aF M.free.length cF, .slice aL M.locks.length cL, .int .i64 M.now]]) (by simp [execOp, go_sem, (show (actV x).tmps[47]?.getD undef = _ from x20)]) ((ownMem_any M aS aH aF aL cS cH cF cL W (HAt.out _ hcw)).mono ?_)
      rintro e w3 ⟨xS, xH, xF, xL, kS, kH, kF, kL, rfl, R3, hb3⟩
      exact ⟨_, rfl, updv x 48 _, rfl, hJ.next 3 (by omega) (updv_outV (by decide)) (T.a3 (getD_ft hi2) hb3 ⟨_, _, _, _, _, _, _, _, rfl, R3, fun _ _ => trivial⟩)⟩
    · exact wpOp_val rfl rfl (v := .pointer (some ⟨W.heap.size, 0, none⟩)) (w' := W.alloc zeroTw) (by simp only [execOp]; simp [go_sem, zeroTw]) ⟨updv x 9 _, rfl, hJ.next 4 (by omega) (updv_outV (by decide)) (T.a4 (getD_ft hi2))⟩
    · exact wpOp_val rfl rfl (v := .pointer (some ⟨W.heap.size, 0, none⟩)) (w' := W.alloc zeroTw) (by simp only [execOp]; simp [go_sem, zeroTw]) ⟨updv x 10 _, rfl, hJ.next 5 (by omega) (updv_outV (by decide)) (T.a5 (getD_ft hi2))⟩
    · have g4 : listed.getD 4 false = true := hpre ⟨4, .data⟩ (by simp at ho; subst ho; simp) rfl
      have g1 : listed.getD 1 false = true := hpre ⟨1, .data⟩ (by simp at ho; subst ho; simp) rfl
      obtain ⟨B, x5, -, hz, -⟩ := T.p4 g4
      obtain ⟨xS, xH, xF, xL, kS, kH, kF, kL, x19, -, -⟩ := T.p1 g1
      have hz' := hz (getD_ft hi2)
      unfold zeroTw at hz'
      obtain ⟨r0, r1, r2, r3, r4, z0, z1, z2, z3, z4, zs⟩ := boxf hz'
      refine wpOp_skip rfl rfl (w' := set5 W B (.slice xS M.slots.length kS) (.slice xH M.heads.length kH) (.slice xF M.free.length kF) (.slice xL M.locks.length kL) (.int .i64 M.now)) (by
        simp [execOp, go_sem, (show (actV x).tmps[9]?.getD undef = _ from x5), (show (actV x).tmps[46]?.getD undef = _ from x19), r0, r1, r2, r3, r4, z0, z1, z2, z3, z4]
        rfl) ⟨x, rfl, hJ.next 6 (by omega) (fun _ _ => rfl) (T.a6 g1 g4 (getD_ft hi2) x5 x19)⟩
    · have g5 : listed.getD 5 false = true := hpre ⟨5, .data⟩ (by simp at ho; subst ho; simp) rfl
      have g3 : listed.getD 3 false = true := hpre ⟨3, .data⟩ (by simp at ho; subst ho; simp) rfl
      obtain ⟨B, x6, -, hz, -⟩ := T.p5 g5
      obtain ⟨xS, xH, xF, xL, kS, kH, kF, kL, x21, -, -⟩ := T.p3 g3
      have hz' := hz (getD_ft hi2)
      unfold zeroTw at hz'
      obtain ⟨r0, r1, r2, r3, r4, z0, z1, z2, z3, z4, zs⟩ := boxf hz'
      refine wpOp_skip rfl rfl (w' := set5 W B (.slice xS M.slots.length kS) (.slice xH M.heads.length kH) (.slice xF M.free.length kF) (.slice xL M.locks.length kL) (.int .i64 M.now)) (by
        simp [execOp, go_sem, (show (actV x).tmps[10]?.getD undef = _ from x6), (show (actV x).tmps[48]?.getD undef = _ from x21), r0, r1, r2, r3, r4, z0, z1, z2, z3, z4]
        rfl) ⟨x, rfl, hJ.next 7 (by omega) (fun _ _ => rfl) (T.a7 g3 g5 (getD_ft hi2) x6 x21)⟩
  intro listed x W hr hJ
  obtain ⟨hsz, hout, Z, T⟩ := hJ
  have hall := all_listed hr hsz (by kernel_rfl) 8
  have g6 : listed.getD 6 false = true := hall 6 (by omega) (by show 6 < 8; omega)
  have g7 : listed.getD 7 false = true := hall 7 (by omega) (by show 7 < 8; omega)
  clear hr hall
  obtain ⟨Bx, By, xS, xH, xF, xL, kS, kH, kF, kL, yS, yH, yF, yL, jS, jH, jF, jL, e9, e10, mx, my, fx, fy⟩ := T.fin g6 g7 (by have := HMx.out.1; omega) (by have := HMx.out.2.1; omega) (by have := HNs.out; omega) (by have := HMx.out.2.2.2; omega)
  have e1 : x 1 = .int .i64 (bn : Int) := hout 1 (by decide)
  have e2 : x 2 = .pointer (some ⟨w.heap.size, 0, none⟩) := hout 2 (by decide)
  have e5 : x 5 = .slice ao L.length cap := hout 5 (by decide)
  have e7 : x 7 = .pointer (some ⟨Q, 0, none⟩) := hout 7 (by decide)
  have HC5 : Hid (Below WB.heap.size WB W) := HC4.out.trans (T.bl.mono HC4.out.size)
  have HX5 : Hid (Mine W Bx w4.heap.size xS xH xF xL kS kH kF kL M) := mx
  have HY5 : Hid (Mine W By w4.heap.size yS yH yF yL jS jH jF jL M) := my
  have HFx : Hid (∀ k, Foot Bx xS xH xF xL k → WB.heap.size ≤ k) := fun k h => Nat.le_trans HC4.out.size (fx k h)
  have HFy : Hid (∀ k, Foot By yS yH yF yL k → WB.heap.size ≤ k ∧ ¬ Foot Bx xS xH xF xL k) := fun k h => ⟨Nat.le_trans HC4.out.size (fy k h).1, (fy k h).2⟩
  clear T hout g6 g7 hsz mx my fx fy HC4 h2
  refine hK0 _ _ ?_
  clear hK0
  unfold actV
  rw [e1, e2, e5, e7, e9, e10]
  clear e1 e2 e5 e7 e9 e10
  generalize w4.heap.size = lo at *
  obtain ⟨q0, q1, q2, q3, q4, -, -, -, -, -, qs⟩ := boxf (HBm.out _ ((HC5.out.block _ (lt_of_block HMB.out)).trans HMB.out))
  go_wp2_with fail
  clear q0 q1 q2 q3 q4 qs
  refine (aloneS (c := ⟨4, 0, 0, 0, bn, 0⟩) W (3 * M.slots.length + 5) (by omega) (by omega) HGs.out HRunS.out ⟨_, _, _, _, _, _, _, _, HX5.out, fun _ h => h⟩ (foot_lt HX5.out)).mono ?_
  rintro e w6 ⟨⟨ga, gk, rfl, -⟩, ⟨pS, pH, pF, pL, lS, lH, lF, lL, m6, hz6⟩, hf6⟩
  obtain ⟨og, hog⟩ : ∃ o : Obj, o = .cells #[.int .i64 g.c.kind, .int .i64 g.c.a, .int .i64 g.c.b, .int .i64 g.c.time, .int .i64 g.c.bk, .int .i64 g.c.slot, .int .i64 g.pl, .int .i64 g.cur, .int .i64 g.prev, .int .i64 g.slot, .int .i64 g.n, .slice ga g.keys.length gk, .bool g.done, .int .i64 g.e] 33 := ⟨_, rfl⟩
  have HBg : Hid (∀ (W : World) (G : Nat), W.heap[G]? = some og → W.heap[G]? = some (.cells #[.int .i64 g.c.kind, .int .i64 g.c.a, .int .i64 g.c.b, .int .i64 g.c.time, .int .i64 g.c.bk, .int .i64 g.c.slot, .int .i64 g.pl, .int .i64 g.cur, .int .i64 g.prev, .int .i64 g.slot, .int .i64 g.n, .slice ga g.keys.length gk, .bool g.done, .int .i64 g.e] 33 (0, 0))) := fun W G E => hog ▸ E
  have HC6 : Hid (Below WB.heap.size WB (w6.alloc og)) := (HC5.out.trans (hf6.down HC5.out.size HFx.out)).alloc (by have := HC5.out.size; have := hf6.size; omega) og
  have HX6 : Hid (Mine (w6.alloc og) Bx lo pS pH pF pL lS lH lF lL X) := m6.below (one_below _ _)
  have HY6 : Hid (Mine (w6.alloc og) By lo yS yH yF yL jS jH jF jL M) := (HY5.out.same hf6.size (fun k h1 h2 => hf6.block k h1 (HFy.out k h2).2)).below (one_below _ _)
  have HDj : Hid (∀ k, Foot Bx pS pH pF pL k → ¬ Foot By yS yH yF yL k) := fun k h1 h2 => (hz6 k h1).elim (HFy.out k h2).2 (fun h3 => by have := foot_lt HY5.out k h2; omega)
  have HG6 : Hid ((w6.alloc og).heap[w6.heap.size]? = some og) := heap_alloc_new _ _
  have HFy6 : Hid (∀ k, Foot By yS yH yF yL k → WB.heap.size ≤ k) := fun k h => (HFy.out k h).1
  clear HC5 HX5 HY5 HFx HFy hf6 hz6 m6 HGs HRunS
  obtain ⟨q0, q1, q2, q3, q4, -, -, -, -, -, qs⟩ := boxf (HBm.out _ ((HC6.out.block _ (lt_of_block HMB.out)).trans HMB.out))
  rw [hog] at q0 q1 q2 q3 q4 qs
  go_wp2_with fail
  clear q0 q1 q2 q3 q4 qs
  rw [← hog]
  generalize w6.alloc og = W6 at *
  generalize w6.heap.size = Gs at *
  clear hog
  refine (aloneL (c := ⟨5, 0, 0, 0, bn, 0⟩) W6 (2 * M.slots.length + 5) (by omega) (by omega) HGl.out HRunL.out ⟨_, _, _, _, _, _, _, _, HY6.out, fun _ h => h⟩ (foot_lt HY6.out)).mono ?_
  rintro e w7 ⟨⟨ha, hk, rfl, ho7⟩, ⟨yS2, yH2, yF2, yL2, jS2, jH2, jF2, jL2, m7, -⟩, hf7⟩
  obtain ⟨oh, hoh⟩ : ∃ o : Obj, o = .cells #[.int .i64 h.c.kind, .int .i64 h.c.a, .int .i64 h.c.b, .int .i64 h.c.time, .int .i64 h.c.bk, .int .i64 h.c.slot, .int .i64 h.pl, .int .i64 h.cur, .int .i64 h.prev, .int .i64 h.slot, .int .i64 h.n, .slice ha h.keys.length hk, .bool h.done, .int .i64 h.e] 33 := ⟨_, rfl⟩
  have HBh : Hid (∀ (W : World) (G : Nat), W.heap[G]? = some oh → W.heap[G]? = some (.cells #[.int .i64 h.c.kind, .int .i64 h.c.a, .int .i64 h.c.b, .int .i64 h.c.time, .int .i64 h.c.bk, .int .i64 h.c.slot, .int .i64 h.pl, .int .i64 h.cur, .int .i64 h.prev, .int .i64 h.slot, .int .i64 h.n, .slice ha h.keys.length hk, .bool h.done, .int .i64 h.e] 33 (0, 0))) := fun W G E => hoh ▸ E
  have HC7 : Hid (Below WB.heap.size WB (w7.alloc oh)) := (HC6.out.trans (hf7.down HC6.out.size HFy6.out)).alloc (by have := HC6.out.size; have := hf7.size; omega) oh
  have HX7 : Hid (Mine (w7.alloc oh) Bx lo pS pH pF pL lS lH lF lL X) := (HX6.out.same hf7.size (fun k h1 h2 => hf7.block k h1 (HDj.out k h2))).below (one_below _ _)
  have HY7 : Hid (Mine (w7.alloc oh) By lo yS2 yH2 yF2 yL2 jS2 jH2 jF2 jL2 M) := m7.below (one_below _ _)
  have hg7 : w7.heap[Gs]? = some og := (hf7.block Gs (lt_of_block HG6.out) (HY6.out.notFrame (HBg.out _ _ HG6.out))).trans HG6.out
  have HG7 : Hid ((w7.alloc oh).heap[Gs]? = some og) := (Below.heap_alloc _ _ _ (lt_of_block hg7)).trans hg7
  have HH7 : Hid ((w7.alloc oh).heap[w7.heap.size]? = some oh) := heap_alloc_new _ _
  have HK7 : Hid (KOwn (w7.alloc oh) 0 ha hk h.keys) := ho7.below (one_below _ _)
  clear HC6 HX6 HY6 HDj HG6 HFy6 hf7 m7 hg7 ho7 HGl HRunL
  obtain ⟨p0, p1, p2, p3, p4, -, -, -, -, -, ps⟩ := boxf HX7.out.box
  rw [hoh] at p0 p1 p2 p3 p4 ps
  go_wp2_with fail
  clear p0 p1 p2 p3 p4 ps
  rw [← hoh]
  generalize w7.alloc oh = W7 at *
  generalize w7.heap.size = Gt at *
  clear hoh
  obtain ⟨L2, hL2⟩ : ∃ L2, flowsM X = L2 := ⟨_, rfl⟩
  have HL2 : Hid (L2 = L.filter (fun f => !(decide (f.unt ≤ M.now) && l.contains f.slot))) := (hL2.symm.trans (flowsM_of HXo.out)).trans HXf.out
  have c1 := flows_own X pS pH pF pL lS lH lF lL W7 HX7.out.at
  rw [hL2, (chkC_zero X).2 HXo.out] at c1
  refine c1.mono ?_
  clear hL2 HXf c1
  rintro e w8 ⟨ao3, cap3, rfl, fr3, hb8⟩
  have HC8 : Hid (Below WB.heap.size WB w8) := HC7.out.trans (hb8.mono HC7.out.size)
  have HY8 : Hid (Mine w8 By lo yS2 yH2 yF2 yL2 jS2 jH2 jF2 jL2 M) := HY7.out.below hb8
  have HG8 : Hid (w8.heap[Gs]? = some og) := (hb8.block _ (lt_of_block HG7.out)).trans HG7.out
  have HH8 : Hid (w8.heap[Gt]? = some oh) := (hb8.block _ (lt_of_block HH7.out)).trans HH7.out
  have HK8 : Hid (KOwn w8 0 ha hk h.keys) := HK7.out.below hb8
  have HF8 : Hid (w8.ownsRow WB.heap.size 56 4 (.slice ao3 L2.length cap3) L2.length (encF L2)) := ownsRow_le fr3 HC7.out.size
  clear HC7 HX7 HY7 HG7 HH7 HK7 hb8 fr3
  obtain ⟨q0, q1, q2, q3, q4, -, -, -, -, -, qs⟩ := boxf (HBm.out _ ((HC8.out.block _ (lt_of_block HMB.out)).trans HMB.out))
  obtain ⟨p0, p1, p2, p3, p4, -, -, -, -, -, ps⟩ := boxf HY8.out.box
  obtain ⟨g0, g1, g2, g3, g4, g5, g6, g7, g8, g9, g10, g11, g12, g13, -, gs⟩ := framef (HBg.out _ _ HG8.out)
  obtain ⟨h0, h1, h2, h3, h4, h5, h6, h7, h8, h9, h10, h11, h12, h13, -, hs⟩ := framef (HBh.out _ _ HH8.out)
  rw [HGe.out.1] at g13
  rw [HGe.out.2] at h13
  go_wp2_with fail
  clear q0 q1 q2 q3 q4 qs
  clear p0 p1 p2 p3 p4 ps g0 g1 g2 g3 g4 g5 g6 g7 g8 g9 g10 g11 g12 g13 gs h0 h1 h2 h3 h4 h5 h6 h7 h8 h9 h10 h11 h12 h13 hs
  have c1 := same_any M M _ _ w8 lo 0 HY8.out.ans ((HA.out.below HBB.out).below HC8.out)
  rw [eqM_own] at c1
  refine c1.mono ?_
  clear c1
  rintro e w9 ⟨rfl, hb9⟩
  have HC9 : Hid (Below WB.heap.size WB w9) := HC8.out.trans (hb9.mono HC8.out.size)
  have HG9 : Hid (w9.heap[Gs]? = some og) := (hb9.block _ (lt_of_block HG8.out)).trans HG8.out
  have HH9 : Hid (w9.heap[Gt]? = some oh) := (hb9.block _ (lt_of_block HH8.out)).trans HH8.out
  have HK9 : Hid (KOwn w9 0 ha hk h.keys) := HK8.out.below hb9
  have HF9 : Hid (w9.ownsRow WB.heap.size 56 4 (.slice ao3 L2.length cap3) L2.length (encF L2)) := own_same HF8.out (fun g hg => hb9.block g (HF8.out.lt g hg).2)
  clear HC8 HY8 HG8 HH8 HK8 HF8 hb9
  have hkl : h.keys.length = l.length := by rw [HHk.out, List.length_map]
  obtain ⟨h0, h1, h2, h3, h4, h5, h6, h7, h8, h9, h10, h11, h12, h13, -, hs⟩ := framef (HBh.out _ _ HH9.out)
  rw [hkl] at h11
  obtain ⟨b0, -, bs⟩ := var_cell (HBl.out _ ((HC9.out.block _ (lt_of_block HLB.out)).trans HLB.out))
  have hlm := HIB.out.1.max
  have HLm : Hid (l.length ≤ 1000) := by show _ ≤ _; rw [HLl.out]; have := chL_len HOk.out HBn.out; omega
  have hlm2 := HLm.out
  clear hlm
  go_wp2_with fail
  clear h0 h1 h2 h3 h4 h5 h6 h7 h8 h9 h10 h11 h12 h13 hs b0 bs hkl
  go_loopw [114] (fun i wr => ∃ k : Nat, k ≤ l.length ∧ i = .int .i64 k ∧ Hid (Below w9.heap.size w9 wr)) (fun i _ => l.length - (intOf i).toNat)
  case atStart => exact ⟨0, Nat.zero_le _, rfl, Below.refl _ _⟩
  case round =>
    obtain ⟨k, hk1, rfl, HW⟩ := hrel
    have HCr : Hid (Below WB.heap.size WB wr) := HC9.out.trans (HW.out.mono HC9.out.size)
    have HKr : Hid (KRow wr ha hk h.keys) := (HK9.out.below HW.out).row (by rw [HHk.out, List.length_map]; exact hlm2)
    by_cases hlt : k < l.length
    · have hall : ∀ x ∈ l, x ∈ chL M bn := fun x hx => by rw [← HLl.out]; exact hx
      have hmem : l[k] ∈ chL M bn := hall _ (List.getElem_mem hlt)
      clear hall
      obtain ⟨hl0, hl1⟩ := HOk.out.slots HBn.out _ hmem
      obtain ⟨j, hj⟩ : ∃ j : Nat, l[k] = (j : Int) := ⟨l[k].toNat, by omega⟩
      have hjn : j < M.slots.length := by omega
      rcases (HIB.out.1.below HCr.out).at_ with h0 | ⟨bl, ol2, rfl, hcl⟩
      · omega
      have x0 := hcl k hlt
      rw [hj] at x0
      have hkk : k < h.keys.length := by rw [HHk.out, List.length_map]; exact hlt
      rcases HKr.out.at_ with h0 | ⟨bk, ok2, rfl, hck⟩
      · omega
      obtain ⟨y0, y1⟩ := hck k hkk
      have hky : h.keys[k] = keyAt M (j : Int) := by simp [HHk.out, hj]
      rw [hky] at y0 y1
      rcases (HAt.out _ HCr.out).s.at_ with h0 | ⟨bz, oz2, rfl, hcz⟩
      · omega
      obtain ⟨z0, z1, z2, z3, z4, z5⟩ := hcz j hjn
      have hsl : slotAt M (j : Int) = M.slots[j] := by simp [slotAt, List.getD_eq_getElem?_getD, hjn]
      unfold keyAt at y0 y1
      rw [hsl] at y0 y1
      generalize M.slots[j] = s at z0 z1 z2 z3 z4 z5 y0 y1
      dsimp only at y0 y1
      have se : ∀ W : World, (Op.equalIn 10000 27 (.agg #[.int .i64 s.a, .int .i64 s.b]) (.agg #[.int .i64 s.a, .int .i64 s.b])).run Try.prog W = .ok true W := fun W => by rw [kequal]; simp
      have bl1 := cell_lt x0
      have bl2 := cell_lt y0
      have bl3 := cell_lt z0
      obtain ⟨h0, h1, h2, h3, h4, h5, h6, h7, h8, h9, h10, h11, h12, h13, -, hs⟩ := framef (HBh.out _ _ ((HW.out.block _ (lt_of_block HH9.out)).trans HH9.out))
      obtain ⟨q0, q1, q2, q3, q4, -, -, -, -, -, qs⟩ := boxf (HBm.out _ ((HCr.out.block _ (lt_of_block HMB.out)).trans HMB.out))
      clear hcl hck hcz hmem hl0 hl1 hky hsl hj
      go_wp2_with fail
      go_quiet (fail)
      go_wp2
      refine ⟨⟨k + 1, by omega, by go_num, HW.out.trans ((drewN_below _ _).mono HW.out.size)⟩, ?_⟩
      simp [intOf]
      omega
    · obtain rfl : k = l.length := by omega
      have HGr : Hid (wr.heap[Gs]? = some og) := (HW.out.block _ (lt_of_block HG9.out)).trans HG9.out
      have HFr : Hid (wr.ownsRow WB.heap.size 56 4 (.slice ao3 L2.length cap3) L2.length (encF L2)) := own_same HF9.out (fun g hg => HW.out.block g (HF9.out.lt g hg).2)
      have HOr : Hid (wr.ownsRow w.heap.size 56 4 (.slice ao L.length cap) L.length (encF L)) := own_same HOB.out.1 (fun g hg => HCr.out.block g (HOB.out.1.lt g hg).2)
      have HLn : Hid (L.length ≤ 1000) := by show _ ≤ _; rw [HL'.out]; exact flows_few HOk.out.ok
      clear HC9 HG9 HH9 HK9 HF9 HKr
      have hln := HLn.out
      obtain ⟨R, hR⟩ : ∃ R, R = L.filter (fun f => !(decide (f.unt ≤ M.now) && l.contains f.slot)) := ⟨_, rfl⟩
      have hRl : R.length ≤ L.length := by rw [hR]; exact List.length_filter_le _ _
      have HR2 : Hid (R = L.filter (fun f => !(decide (f.unt ≤ M.now) && l.contains f.slot))) := hR
      have HLR : Hid (L2 = R) := HL2.out.trans hR.symm
      clear hR
      have HWr : Hid (Below w.heap.size w wr) := HBB.out.trans (HCr.out.mono HBB.out.size)
      have hPr := HBm.out _ ((HCr.out.block _ (lt_of_block HMB.out)).trans HMB.out)
      have hQr := HBl.out _ ((HCr.out.block _ (lt_of_block HLB.out)).trans HLB.out)
      have hIr := HIB.out.1.below HCr.out
      cases ao with
      | none =>
        obtain ⟨hn0, hc0⟩ := own_nilF HOr.out
        have hLe : L = [] := List.eq_nil_of_length_eq_zero hn0
        have HRe : Hid (R = [] ∧ cap = 0 ∧ L.length = 0) := ⟨by rw [HR2.out, hLe]; rfl, hc0, hn0⟩
        clear hn0 hLe hc0
        have c1 := deleteFn_nil 22 #[.pointer (some ⟨w.heap.size, 0, none⟩), .pointer (some ⟨Q, 0, none⟩)] (fun x => decide (x.unt ≤ M.now) && l.contains x.slot) wr (fun args W => by kernel_rfl) (fun x W hb => litS4 x w.heap.size Q _ _ _ _ M.now ao2 cap2 l W ((hb.block _ (lt_of_block hPr)).trans hPr) ((hb.block _ (lt_of_block hQr)).trans hQr) (hIr.below hb))
        have HD : Hid (Calls Try.prog 21 #[.slice none L.length cap, .func (.func 22) #[] #[.pointer (some ⟨w.heap.size, 0, none⟩), .pointer (some ⟨Q, 0, none⟩)]] wr fun e w' => e = .returned (.slice none R.length cap) ∧ Below wr.heap.size wr w') := by
          rw [HRe.out.2.2, HRe.out.2.1, HRe.out.1]
          exact c1
        clear c1 hPr hQr hIr
        go_wp2_with fail
        refine HD.out.mono ?_
        rintro e w10 ⟨rfl, hb10⟩
        have hf10 : FRow w10 ao3 cap3 L2 := frow_own (own_same HFr.out (fun g hg => hb10.block g (HFr.out.lt g hg).2)) (by rw [HLR.out]; omega)
        have c2 := equalF_any ao3 none cap3 cap L2 R w10 hf10 (by rw [HRe.out.1, HRe.out.2.1]; exact frow_nil _)
        rw [show eqF L2 R = true from (eqF_iff _ _).2 HLR.out] at c2
        have HG10 : Hid (w10.heap[Gs]? = some og) := (hb10.block _ (lt_of_block HGr.out)).trans HGr.out
        have HW10 : Hid (Below w.heap.size w w10) := HWr.out.trans (hb10.mono HWr.out.size)
        clear hb10 hf10 HD
        go_wp2_with fail
        refine c2.mono ?_
        clear c2
        rintro e w11 ⟨rfl, hb11⟩
        have HG11 : Hid (w11.heap[Gs]? = some og) := (hb11.block _ (lt_of_block HG10.out)).trans HG10.out
        have HW11 : Hid (Below w.heap.size w w11) := HW10.out.trans (hb11.mono HW10.out.size)
        clear hb11 HG10 HW10
        obtain ⟨g0, g1, g2, g3, g4, g5, g6, g7, g8, g9, g10, g11, g12, g13, -, gs⟩ := framef (HBg.out _ _ HG11.out)
        rw [HGn.out, ← HR2.out] at g10
        have hw : IntKind.i64.wrap ((L.length : Int) - (R.length : Int)) = (L.length : Int) - (R.length : Int) := by rw [IntKind.wrap_i64]; omega
        go_wp2
        go_ret
        exact ⟨rfl, HW11.out⟩
      | some ad =>
        obtain ⟨gw, rfl⟩ : ∃ gw, ad = ⟨gw, 0, none⟩ := by
          rcases HOr.out.2 with ⟨hv, -⟩ | ⟨g', cap', cur, hv, -⟩
          · cases hv
          · injection hv with h1 _ _
            injection h1 with h1
            exact ⟨g', h1⟩
        have hg1 : gw < w1.heap.size := HOB.out.2 _ rfl
        have hg2 : w.heap.size ≤ gw := (HOr.out.lt gw rfl).1
        have hgP : w.heap.size ≠ gw := fun e => own_ne HOr.out hPr (by decide) (by show some gw = _; rw [e])
        have hpq := HPQ.out
        have hgQ : Q ≠ gw := by omega
        have hwb : w1.heap.size ≤ WB.heap.size := by have := lt_of_block HLB.out; omega
        have c1 := deleteFn_any 22 #[.pointer (some ⟨w.heap.size, 0, none⟩), .pointer (some ⟨Q, 0, none⟩)] (fun x => decide (x.unt ≤ M.now) && l.contains x.slot) gw cap w.heap.size L wr HOr.out HLn.out (fun args W => by kernel_rfl) (fun x W hf => litS4 x w.heap.size Q _ _ _ _ M.now ao2 cap2 l W ((hf.block _ (lt_of_block hPr) hgP).trans hPr) ((hf.block _ (lt_of_block hQr) hgQ).trans hQr) (hIr.fine hf (fun ad e h => by have := HIB.out.2 ad e; omega)))
        rw [← HR2.out] at c1
        clear hPr hQr hIr
        go_wp2_with fail
        refine c1.mono ?_
        clear c1
        rintro e w10 ⟨rfl, fr10, hf10⟩
        have hr10 : FRow w10 ao3 cap3 L2 := frow_own (own_same HFr.out (fun g hg => hf10.block g (HFr.out.lt g hg).2 (fun e => by have := (HFr.out.lt g hg).1; omega))) (by rw [HLR.out]; omega)
        have c2 := equalF_any ao3 (some ⟨gw, 0, none⟩) cap3 cap L2 R w10 hr10 fr10
        rw [show eqF L2 R = true from (eqF_iff _ _).2 HLR.out] at c2
        have HG10 : Hid (w10.heap[Gs]? = some og) := (hf10.block _ (lt_of_block HGr.out) (fun e => own_ne HOr.out (HBg.out _ _ HGr.out) (by decide) (by show some gw = _; rw [e]))).trans HGr.out
        have HW10 : Hid (Below w.heap.size w w10) := HWr.out.trans (hf10.down HWr.out.size (fun k e => by rw [e]; exact hg2))
        clear fr10 hf10 hr10 hg1 hg2 hgP hgQ hwb hpq
        go_wp2_with fail
        refine c2.mono ?_
        clear c2
        rintro e w11 ⟨rfl, hb11⟩
        have HG11 : Hid (w11.heap[Gs]? = some og) := (hb11.block _ (lt_of_block HG10.out)).trans HG10.out
        have HW11 : Hid (Below w.heap.size w w11) := HW10.out.trans (hb11.mono HW10.out.size)
        clear hb11 HG10 HW10
        obtain ⟨g0, g1, g2, g3, g4, g5, g6, g7, g8, g9, g10, g11, g12, g13, -, gs⟩ := framef (HBg.out _ _ HG11.out)
        rw [HGn.out, ← HR2.out] at g10
        have hw : IntKind.i64.wrap ((L.length : Int) - (R.length : Int)) = (L.length : Int) - (R.length : Int) := by rw [IntKind.wrap_i64]; omega
        go_wp2
        go_ret
        exact ⟨rfl, HW11.out⟩
end Go.Proofs.Ytdbilofhcadmoac.mm
