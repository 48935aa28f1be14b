/- The contract of base.Copy: a copy of memory in memory of its own. -/
import Derived.Test.YtdbilofhcadmoaaOwnR
namespace Go.Proofs.Ytdbilofhcadmoaa.mm
open Go.ChangeShapes Go.WideShapes Go.ChangeAt Go.RowKit Go.Joins
set_option linter.unusedVariables false

theorem own_box {w : World} {lo size n g j : Nat} {e : TypeId} {v : Value} {xs : List Value} {cs : Array Value} (h : w.ownsRow lo e size v n xs) (hB : w.heap[g]? = some (.cells cs 29 (0, 0))) (ne : e ≠ 29) (u : Value) : (w.setCell ⟨g, j, none⟩ u).ownsRow lo e size v n xs :=
  ownsRow_setCell_other h (own_ne h hB ne) u

theorem dj_new {w w1 : World} {lo lo1 size size1 n n1 : Nat} {e e1 : TypeId} {v v1 : Value} {xs xs1 : List Value} (h : w.ownsRow lo e size v n xs) (h1 : w1.ownsRow lo1 e1 size1 v1 n1 xs1) (hl : w.heap.size ≤ lo1) : Dj v v1 := by
  intro g hg hg1
  have := (h.lt g hg).2
  have := (h1.lt g hg1).1
  omega

set_option maxHeartbeats 1600000 in
theorem copy_any (M : Mm) (aS aH aF aL : Option Addr) (cS cH cF cL : Nat) (w : World) (A : At w aS aH aF aL cS cH cF cL M) :
    Calls Try.prog 62 #[.agg #[.slice aS M.slots.length cS, .slice aH M.heads.length cH, .slice aF M.free.length cF, .slice aL M.locks.length cL, .int .i64 M.now]] w fun e w' => ∃ gS gH gF gL kS kH kF kL,
      e = .returned (.agg #[.slice gS M.slots.length kS, .slice gH M.heads.length kH, .slice gF M.free.length kF, .slice gL M.locks.length kL, .int .i64 M.now]) ∧
      Rw w' w.heap.size gS gH gF gL kS kH kF kL M ∧ Below w.heap.size w w' := by
  obtain ⟨S, H, F, L, now⟩ := M
  dsimp only
  have m1 := A.s.max; have m2 := A.h.max; have m3 := A.f.max; have m4 := A.l.max
  dsimp only at m1 m2 m3 m4
  obtain ⟨o1, ho1⟩ : ∃ o : Obj, o = .cells #[.slice aS S.length cS, .slice aH H.length cH, .slice aF F.length cF, .slice aL L.length cL, .int .i64 now] 29 := ⟨_, rfl⟩
  obtain ⟨o2, ho2⟩ : ∃ o : Obj, o = .cells #[.slice none 0 0, .slice none 0 0, .slice none 0 0, .slice none 0 0, .int .i64 0] 29 := ⟨_, rfl⟩
  have B0 : Below w.heap.size w ((w.alloc o1).alloc o2) := below_alloc2 w o1 o2
  have HB0 : Hid (((w.alloc o1).alloc o2).heap[w.heap.size]? = some o1) := by show _ = _; rw [Below.heap_alloc _ _ _ (by simp), heap_alloc_new]
  have HR0 : Hid (((w.alloc o1).alloc o2).heap[w.heap.size + 1]? = some o2) := by
    have := heap_alloc_new (w.alloc o1) o2
    rwa [show (w.alloc o1).heap.size = w.heap.size + 1 by simp] at this
  have z0 : w.heap.size + 2 ≤ ((w.alloc o1).alloc o2).heap.size := by simp
  have HA : Hid (At w aS aH aF aL cS cH cF cL ⟨S, H, F, L, now⟩) := A
  clear A
  go_enter Try.func62, Try.ntmps62
  go_wp2_with fail
  rw [← ho1, ← ho2]
  generalize (w.alloc o1).alloc o2 = W0 at *
  subst ho1 ho2
  have HA0 : Hid _ := HA.out.below B0
  refine (listS_any aS cS S W0 HA0.out.s).mono ?_
  rintro e w1 ⟨gS, kS, rfl, ownS, hb1⟩
  have b1 := B0.trans (hb1.mono B0.size)
  have HBx1 : Hid (w1.heap[w.heap.size]? = _) := (hb1.block w.heap.size (lt_of_block HB0.out)).trans HB0.out
  have HRx1 : Hid (w1.heap[w.heap.size + 1]? = _) := (hb1.block (w.heap.size + 1) (lt_of_block HR0.out)).trans HR0.out
  have zx1 : w.heap.size + 2 ≤ w1.heap.size := Nat.le_trans z0 hb1.size
  have OSx1 : Hid (w1.ownsRow w.heap.size 48 6 (.slice gS S.length kS) S.length (encS S)) := ownsRow_le ownS (by omega)
  clear ownS hb1 HA0 HB0 HR0 
  obtain ⟨q0, q1, q2, q3, q4, f0, f1, f2, f3, f4, qs⟩ := boxf HBx1.out
  have B1 : Below w.heap.size w (w1.setCell ⟨w.heap.size, 0, none⟩ (.slice gS S.length kS)) := b1.setCell (Nat.le_refl _) _
  have HB1 : Hid ((w1.setCell ⟨w.heap.size, 0, none⟩ (.slice gS S.length kS)).heap[w.heap.size]? = some (.cells #[.slice gS S.length kS, .slice aH H.length cH, .slice aF F.length cF, .slice aL L.length cL, .int .i64 now] 29 (0, 0))) := by
    have := block_setCell (i := 0) HBx1.out (.slice gS S.length kS)
    show _ = _
    simpa using this
  have HR1 : Hid ((w1.setCell ⟨w.heap.size, 0, none⟩ (.slice gS S.length kS)).heap[w.heap.size + 1]? = _) := (Below.heap_setCell w1 ⟨w.heap.size, 0, none⟩ (.slice gS S.length kS) (w.heap.size + 1) (by show w.heap.size + 1 ≠ w.heap.size; omega)).trans HRx1.out
  have z1 : w.heap.size + 2 ≤ (w1.setCell ⟨w.heap.size, 0, none⟩ (.slice gS S.length kS)).heap.size := by rw [World.size_setCell]; exact zx1
  have OS1 : Hid ((w1.setCell ⟨w.heap.size, 0, none⟩ (.slice gS S.length kS)).ownsRow w.heap.size 48 6 (.slice gS S.length kS) S.length (encS S)) := own_box OSx1.out HBx1.out (by decide) _
  clear zx1 HRx1 OSx1 B0 b1 z0
  go_wp2_with fail
  generalize w1.setCell ⟨w.heap.size, 0, none⟩ (.slice gS S.length kS) = W1 at *
  clear q0 q1 q2 q3 q4 f0 f1 f2 f3 f4 qs HBx1
  have HA1 : Hid _ := HA.out.below B1
  refine (listI_any aH cH H W1 HA1.out.h).mono ?_
  rintro e w2 ⟨gH, kH, rfl, ownH, hb2⟩
  have b2 := B1.trans (hb2.mono B1.size)
  have HBx2 : Hid (w2.heap[w.heap.size]? = _) := (hb2.block w.heap.size (lt_of_block HB1.out)).trans HB1.out
  have HRx2 : Hid (w2.heap[w.heap.size + 1]? = _) := (hb2.block (w.heap.size + 1) (lt_of_block HR1.out)).trans HR1.out
  have zx2 : w.heap.size + 2 ≤ w2.heap.size := Nat.le_trans z1 hb2.size
  have OSx2 : Hid (w2.ownsRow w.heap.size 48 6 (.slice gS S.length kS) S.length (encS S)) := own_below OS1.out hb2
  have OHx2 : Hid (w2.ownsRow w.heap.size 3 1 (.slice gH H.length kH) H.length (encI H)) := ownsRow_le ownH (by omega)
  clear ownH hb2 HA1 HB1 HR1 OS1
  obtain ⟨q0, q1, q2, q3, q4, f0, f1, f2, f3, f4, qs⟩ := boxf HBx2.out
  have B2 : Below w.heap.size w (w2.setCell ⟨w.heap.size, 1, none⟩ (.slice gH H.length kH)) := b2.setCell (Nat.le_refl _) _
  have HB2 : Hid ((w2.setCell ⟨w.heap.size, 1, none⟩ (.slice gH H.length kH)).heap[w.heap.size]? = some (.cells #[.slice gS S.length kS, .slice gH H.length kH, .slice aF F.length cF, .slice aL L.length cL, .int .i64 now] 29 (0, 0))) := by
    have := block_setCell (i := 1) HBx2.out (.slice gH H.length kH)
    show _ = _
    simpa using this
  have HR2 : Hid ((w2.setCell ⟨w.heap.size, 1, none⟩ (.slice gH H.length kH)).heap[w.heap.size + 1]? = _) := (Below.heap_setCell w2 ⟨w.heap.size, 1, none⟩ (.slice gH H.length kH) (w.heap.size + 1) (by show w.heap.size + 1 ≠ w.heap.size; omega)).trans HRx2.out
  have z2 : w.heap.size + 2 ≤ (w2.setCell ⟨w.heap.size, 1, none⟩ (.slice gH H.length kH)).heap.size := by rw [World.size_setCell]; exact zx2
  have OS2 : Hid ((w2.setCell ⟨w.heap.size, 1, none⟩ (.slice gH H.length kH)).ownsRow w.heap.size 48 6 (.slice gS S.length kS) S.length (encS S)) := own_box OSx2.out HBx2.out (by decide) _
  have OH2 : Hid ((w2.setCell ⟨w.heap.size, 1, none⟩ (.slice gH H.length kH)).ownsRow w.heap.size 3 1 (.slice gH H.length kH) H.length (encI H)) := own_box OHx2.out HBx2.out (by decide) _
  clear zx2 HRx2 OSx2 OHx2 B1 b2 z1
  go_wp2_with fail
  generalize w2.setCell ⟨w.heap.size, 1, none⟩ (.slice gH H.length kH) = W2 at *
  clear q0 q1 q2 q3 q4 f0 f1 f2 f3 f4 qs HBx2
  have HA2 : Hid _ := HA.out.below B2
  refine (listI_any aF cF F W2 HA2.out.f).mono ?_
  rintro e w3 ⟨gF, kF, rfl, ownF, hb3⟩
  have b3 := B2.trans (hb3.mono B2.size)
  have HBx3 : Hid (w3.heap[w.heap.size]? = _) := (hb3.block w.heap.size (lt_of_block HB2.out)).trans HB2.out
  have HRx3 : Hid (w3.heap[w.heap.size + 1]? = _) := (hb3.block (w.heap.size + 1) (lt_of_block HR2.out)).trans HR2.out
  have zx3 : w.heap.size + 2 ≤ w3.heap.size := Nat.le_trans z2 hb3.size
  have OSx3 : Hid (w3.ownsRow w.heap.size 48 6 (.slice gS S.length kS) S.length (encS S)) := own_below OS2.out hb3
  have OHx3 : Hid (w3.ownsRow w.heap.size 3 1 (.slice gH H.length kH) H.length (encI H)) := own_below OH2.out hb3
  have OFx3 : Hid (w3.ownsRow w.heap.size 3 1 (.slice gF F.length kF) F.length (encI F)) := ownsRow_le ownF (by omega)
  have DHF : Dj (.slice gH H.length kH) (.slice gF F.length kF) := dj_new OH2.out ownF (Nat.le_refl _)
  clear ownF hb3 HA2 HB2 HR2 OS2 OH2
  obtain ⟨q0, q1, q2, q3, q4, f0, f1, f2, f3, f4, qs⟩ := boxf HBx3.out
  have B3 : Below w.heap.size w (w3.setCell ⟨w.heap.size, 2, none⟩ (.slice gF F.length kF)) := b3.setCell (Nat.le_refl _) _
  have HB3 : Hid ((w3.setCell ⟨w.heap.size, 2, none⟩ (.slice gF F.length kF)).heap[w.heap.size]? = some (.cells #[.slice gS S.length kS, .slice gH H.length kH, .slice gF F.length kF, .slice aL L.length cL, .int .i64 now] 29 (0, 0))) := by
    have := block_setCell (i := 2) HBx3.out (.slice gF F.length kF)
    show _ = _
    simpa using this
  have HR3 : Hid ((w3.setCell ⟨w.heap.size, 2, none⟩ (.slice gF F.length kF)).heap[w.heap.size + 1]? = _) := (Below.heap_setCell w3 ⟨w.heap.size, 2, none⟩ (.slice gF F.length kF) (w.heap.size + 1) (by show w.heap.size + 1 ≠ w.heap.size; omega)).trans HRx3.out
  have z3 : w.heap.size + 2 ≤ (w3.setCell ⟨w.heap.size, 2, none⟩ (.slice gF F.length kF)).heap.size := by rw [World.size_setCell]; exact zx3
  have OS3 : Hid ((w3.setCell ⟨w.heap.size, 2, none⟩ (.slice gF F.length kF)).ownsRow w.heap.size 48 6 (.slice gS S.length kS) S.length (encS S)) := own_box OSx3.out HBx3.out (by decide) _
  have OH3 : Hid ((w3.setCell ⟨w.heap.size, 2, none⟩ (.slice gF F.length kF)).ownsRow w.heap.size 3 1 (.slice gH H.length kH) H.length (encI H)) := own_box OHx3.out HBx3.out (by decide) _
  have OF3 : Hid ((w3.setCell ⟨w.heap.size, 2, none⟩ (.slice gF F.length kF)).ownsRow w.heap.size 3 1 (.slice gF F.length kF) F.length (encI F)) := own_box OFx3.out HBx3.out (by decide) _
  clear zx3 HRx3 OSx3 OHx3 OFx3 B2 b3 z2
  go_wp2_with fail
  generalize w3.setCell ⟨w.heap.size, 2, none⟩ (.slice gF F.length kF) = W3 at *
  clear q0 q1 q2 q3 q4 f0 f1 f2 f3 f4 qs HBx3
  have HA3 : Hid _ := HA.out.below B3
  refine (listI_any aL cL L W3 HA3.out.l).mono ?_
  rintro e w4 ⟨gL, kL, rfl, ownL, hb4⟩
  have b4 := B3.trans (hb4.mono B3.size)
  have HBx4 : Hid (w4.heap[w.heap.size]? = _) := (hb4.block w.heap.size (lt_of_block HB3.out)).trans HB3.out
  have HRx4 : Hid (w4.heap[w.heap.size + 1]? = _) := (hb4.block (w.heap.size + 1) (lt_of_block HR3.out)).trans HR3.out
  have zx4 : w.heap.size + 2 ≤ w4.heap.size := Nat.le_trans z3 hb4.size
  have OSx4 : Hid (w4.ownsRow w.heap.size 48 6 (.slice gS S.length kS) S.length (encS S)) := own_below OS3.out hb4
  have OHx4 : Hid (w4.ownsRow w.heap.size 3 1 (.slice gH H.length kH) H.length (encI H)) := own_below OH3.out hb4
  have OFx4 : Hid (w4.ownsRow w.heap.size 3 1 (.slice gF F.length kF) F.length (encI F)) := own_below OF3.out hb4
  have OLx4 : Hid (w4.ownsRow w.heap.size 3 1 (.slice gL L.length kL) L.length (encI L)) := ownsRow_le ownL (by omega)
  have DHL : Dj (.slice gH H.length kH) (.slice gL L.length kL) := dj_new OH3.out ownL (Nat.le_refl _)
  have DFL : Dj (.slice gF F.length kF) (.slice gL L.length kL) := dj_new OF3.out ownL (Nat.le_refl _)
  clear ownL hb4 HA3 HB3 HR3 OS3 OH3 OF3
  obtain ⟨q0, q1, q2, q3, q4, f0, f1, f2, f3, f4, qs⟩ := boxf HBx4.out
  obtain ⟨r0, r1, r2, r3, r4, g0, g1, g2, g3, g4, rs⟩ := boxf HRx4.out
  have rs0 : w.heap.size + 1 ≠ w.heap.size := by omega
  have HF : Hid (Rw (mm.set5 (w4.setCell ⟨w.heap.size, 3, none⟩ (.slice gL L.length kL)) (w.heap.size + 1) (.slice gS S.length kS) (.slice gH H.length kH) (.slice gF F.length kF) (.slice gL L.length kL) (.int .i64 now)) w.heap.size gS gH gF gL kS kH kF kL ⟨S, H, F, L, now⟩) := by
    have hR : (w4.setCell ⟨w.heap.size, 3, none⟩ (.slice gL L.length kL)).heap[w.heap.size + 1]? = _ := (Below.heap_setCell w4 ⟨w.heap.size, 3, none⟩ (.slice gL L.length kL) (w.heap.size + 1) (by show w.heap.size + 1 ≠ w.heap.size; omega)).trans HRx4.out
    have r : Rw (w4.setCell ⟨w.heap.size, 3, none⟩ (.slice gL L.length kL)) w.heap.size gS gH gF gL kS kH kF kL ⟨S, H, F, L, now⟩ :=
      ⟨own_box OSx4.out HBx4.out (by decide) _, own_box OHx4.out HBx4.out (by decide) _, own_box OFx4.out HBx4.out (by decide) _, own_box OLx4.out HBx4.out (by decide) _, DHF, DHL, DFL, by rw [World.size_setCell]; omega⟩
    exact r.set5 hR _ _ _ _ _
  clear OSx4 OHx4 OFx4 OLx4 HBx4 HRx4 z3
  go_wp2
  refine bodyPost_ret (v := .agg #[.slice gS S.length kS, .slice gH H.length kH, .slice gF F.length kF, .slice gL L.length kL, .int .i64 now]) (by simp [results, Try.results62, go_sem, r0, r1, r2, r3, r4]) rfl ⟨_, _, _, _, _, _, _, _, rfl, HF.out, ?_⟩
  exact (b4.setCell (Nat.le_refl _) _).trans (set5_below _ _ _ _ _ _ _ _ (by omega))


end Go.Proofs.Ytdbilofhcadmoaa.mm
