/- The contract of copyOf: a copy of memory in memory of its own. -/
import Derived.Test.YtjkbglfceoiicaaOwn
namespace Go.Proofs.Ytjkbglfceoiicaa.mm
open Go.ChangeShapes Go.WideShapes Go.ChangeAt Go.RowKit Go.Joins
set_option linter.unusedVariables false

/- Four blocks of one's own hold memory. -/
structure Copy (w : World) (lo gS gH gF gL : Nat) (M : Mm) : Prop where
  o1 : lo ≤ gS
  o2 : gS < gH
  o3 : gH < gF
  o4 : gF < gL
  s : w.heap[gS]? = some (.cells (encS M.slots).toArray 48 (0, 0))
  h : w.heap[gH]? = some (.cells (encI M.heads).toArray 3 (0, 0))
  f : w.heap[gF]? = some (.cells (encI M.free).toArray 3 (0, 0))
  l : w.heap[gL]? = some (.cells (encI M.locks).toArray 3 (0, 0))

theorem boxf {w : World} {B : Nat} {v0 v1 v2 v3 v4 : Value} {t : TypeId} (h : w.heap[B]? = some (.cells #[v0, v1, v2, v3, v4] t (0, 0))) :
    w.cell? ⟨B, 0, none⟩ = some v0 ∧ w.cell? ⟨B, 1, none⟩ = some v1 ∧ w.cell? ⟨B, 2, none⟩ = some v2 ∧ w.cell? ⟨B, 3, none⟩ = some v3 ∧ w.cell? ⟨B, 4, none⟩ = some v4 ∧
    w.frozen? ⟨B, 0, none⟩ = false ∧ w.frozen? ⟨B, 1, none⟩ = false ∧ w.frozen? ⟨B, 2, none⟩ = false ∧ w.frozen? ⟨B, 3, none⟩ = false ∧ w.frozen? ⟨B, 4, none⟩ = false ∧ B < w.heap.size :=
  ⟨by rw [cell_of_block h]; rfl, by rw [cell_of_block h]; rfl, by rw [cell_of_block h]; rfl, by rw [cell_of_block h]; rfl, by rw [cell_of_block h]; rfl,
    unfrozen_of_block h _, unfrozen_of_block h _, unfrozen_of_block h _, unfrozen_of_block h _, unfrozen_of_block h _, lt_of_block h⟩

set_option maxHeartbeats 1600000 in
theorem copy_any (M : Mm) (aS aH aF aL : Option Addr) (cS cH cF cL : Nat) (w : World) (A : At w aS aH aF aL cS cH cF cL M) :
    Calls Try.prog 62 #[.agg #[.slice aS M.slots.length cS, .slice aH M.heads.length cH, .slice aF M.free.length cF, .slice aL M.locks.length cL, .int .i64 M.now]] w fun e w' => ∃ gS gH gF gL,
      e = .returned (.agg #[.slice (some ⟨gS, 0, none⟩) M.slots.length M.slots.length, .slice (some ⟨gH, 0, none⟩) M.heads.length M.heads.length, .slice (some ⟨gF, 0, none⟩) M.free.length M.free.length, .slice (some ⟨gL, 0, none⟩) M.locks.length M.locks.length, .int .i64 M.now]) ∧
      Copy w' w.heap.size gS gH gF gL M ∧ Below w.heap.size w w' := by
  obtain ⟨S, H, F, L, now⟩ := M
  dsimp only
  have m1 := A.s.max; have m2 := A.h.max; have m3 := A.f.max; have m4 := A.l.max
  dsimp only at m1 m2 m3 m4
  obtain ⟨o1, ho1⟩ : ∃ o : Obj, o = .cells #[.slice aS S.length cS, .slice aH H.length cH, .slice aF F.length cF, .slice aL L.length cL, .int .i64 now] 29 := ⟨_, rfl⟩
  obtain ⟨o2, ho2⟩ : ∃ o : Obj, o = .cells #[.slice none 0 0, .slice none 0 0, .slice none 0 0, .slice none 0 0, .int .i64 0] 29 := ⟨_, rfl⟩
  have b0 : Below w.heap.size w ((w.alloc o1).alloc o2) := below_alloc2 w o1 o2
  have hB0 : ((w.alloc o1).alloc o2).heap[w.heap.size]? = some o1 := by rw [Below.heap_alloc _ _ _ (by simp), heap_alloc_new]
  have hR0 : ((w.alloc o1).alloc o2).heap[w.heap.size + 1]? = some o2 := by
    have := heap_alloc_new (w.alloc o1) o2
    rwa [show (w.alloc o1).heap.size = w.heap.size + 1 by simp] at this
  have s0 : ((w.alloc o1).alloc o2).heap.size = w.heap.size + 2 := by simp
  have HA : Hid _ := A
  have HA0 : Hid _ := A.below b0
  have HS0 : Hid _ := s0
  have HB0 : Hid _ := hB0
  have HR0 : Hid _ := hR0
  clear A s0 hB0 hR0
  go_enter Try.func62, Try.ntmps62
  go_wp2_with fail
  rw [← ho1, ← ho2]
  generalize (w.alloc o1).alloc o2 = W0 at *
  subst ho1 ho2
  refine (listS_any aS cS S W0 HA0.out.s).mono ?_
  rintro e w1 ⟨rfl, k1, hb1⟩
  have b1 := b0.trans (hb1.mono b0.size)
  have HB1 : Hid _ := (hb1.block w.heap.size (by have := HS0.out; omega)).trans HB0.out
  have HR1 : Hid _ := (hb1.block (w.heap.size + 1) (by have := HS0.out; omega)).trans HR0.out
  obtain ⟨q0, q1, q2, q3, q4, f0, f1, f2, f3, f4, qs⟩ := boxf HB1.out
  have HK1 : Hid _ := k1
  have t1 : W0.heap.size < w1.heap.size := lt_of_block k1
  have t0 : w.heap.size + 2 ≤ W0.heap.size := Nat.le_of_eq HS0.out.symm
  clear k1 HS0 HB0 HR0 HA0
  have B1 : Below w.heap.size w (w1.setCell ⟨w.heap.size, 0, none⟩ (.slice (some ⟨W0.heap.size, 0, none⟩) S.length S.length)) := b1.setCell (Nat.le_refl _) _
  have HB1' : Hid ((w1.setCell ⟨w.heap.size, 0, none⟩ (.slice (some ⟨W0.heap.size, 0, none⟩) S.length S.length)).heap[w.heap.size]? = some (.cells #[.slice (some ⟨W0.heap.size, 0, none⟩) S.length S.length, .slice aH H.length cH, .slice aF F.length cF, .slice aL L.length cL, .int .i64 now] 29 (0, 0))) := by
    have := block_setCell (i := 0) HB1.out (.slice (some ⟨W0.heap.size, 0, none⟩) S.length S.length)
    show _ = _
    simpa using this
  have HR1' : Hid _ := (Below.heap_setCell w1 ⟨w.heap.size, 0, none⟩ (.slice (some ⟨W0.heap.size, 0, none⟩) S.length S.length) (w.heap.size + 1) (by show w.heap.size + 1 ≠ w.heap.size; omega)).trans HR1.out
  have HK1_1 : Hid _ := (Below.heap_setCell w1 ⟨w.heap.size, 0, none⟩ (.slice (some ⟨W0.heap.size, 0, none⟩) S.length S.length) W0.heap.size (by show _ ≠ w.heap.size; omega)).trans HK1.out
  have HZ1 : Hid ((w1.setCell ⟨w.heap.size, 0, none⟩ (.slice (some ⟨W0.heap.size, 0, none⟩) S.length S.length)).heap.size = w1.heap.size) := World.size_setCell ..
  have HA1 : Hid _ := HA.out.below B1
  go_wp2_with fail
  generalize w1.setCell ⟨w.heap.size, 0, none⟩ (.slice (some ⟨W0.heap.size, 0, none⟩) S.length S.length) = W1 at *
  clear q0 q1 q2 q3 q4 f0 f1 f2 f3 f4 qs HK1 HB1 HR1
  have z1 : W0.heap.size < W1.heap.size := by rw [HZ1.out]; exact t1
  refine (listI_any aH cH H W1 HA1.out.h).mono ?_
  rintro e w2 ⟨rfl, k2, hb2⟩
  have t2 : W1.heap.size < w2.heap.size := lt_of_block k2
  have b2 := B1.trans (hb2.mono B1.size)
  have HB2 : Hid _ := (hb2.block w.heap.size (by have := B1.size; omega)).trans HB1'.out
  have HR2 : Hid _ := (hb2.block (w.heap.size + 1) (by have := B1.size; omega)).trans HR1'.out
  have HK1 : Hid _ := (hb2.block W0.heap.size (by omega)).trans HK1_1.out
  have HK2 : Hid _ := k2
  clear k2 HB1' HR1' HK1_1 HZ1 HA1
  obtain ⟨q0, q1, q2, q3, q4, f0, f1, f2, f3, f4, qs⟩ := boxf HB2.out
  have B2 : Below w.heap.size w (w2.setCell ⟨w.heap.size, 1, none⟩ (.slice (some ⟨W1.heap.size, 0, none⟩) H.length H.length)) := b2.setCell (Nat.le_refl _) _
  have HB2' : Hid ((w2.setCell ⟨w.heap.size, 1, none⟩ (.slice (some ⟨W1.heap.size, 0, none⟩) H.length H.length)).heap[w.heap.size]? = some (.cells #[.slice (some ⟨W0.heap.size, 0, none⟩) S.length S.length, .slice (some ⟨W1.heap.size, 0, none⟩) H.length H.length, .slice aF F.length cF, .slice aL L.length cL, .int .i64 now] 29 (0, 0))) := by
    have := block_setCell (i := 1) HB2.out (.slice (some ⟨W1.heap.size, 0, none⟩) H.length H.length)
    show _ = _
    simpa using this
  have HR2' : Hid _ := (Below.heap_setCell w2 ⟨w.heap.size, 1, none⟩ (.slice (some ⟨W1.heap.size, 0, none⟩) H.length H.length) (w.heap.size + 1) (by show w.heap.size + 1 ≠ w.heap.size; omega)).trans HR2.out
  have HK1_2 : Hid _ := (Below.heap_setCell w2 ⟨w.heap.size, 1, none⟩ (.slice (some ⟨W1.heap.size, 0, none⟩) H.length H.length) W0.heap.size (by show _ ≠ w.heap.size; omega)).trans HK1.out
  have HK2_2 : Hid _ := (Below.heap_setCell w2 ⟨w.heap.size, 1, none⟩ (.slice (some ⟨W1.heap.size, 0, none⟩) H.length H.length) W1.heap.size (by show _ ≠ w.heap.size; omega)).trans HK2.out
  have HZ2 : Hid ((w2.setCell ⟨w.heap.size, 1, none⟩ (.slice (some ⟨W1.heap.size, 0, none⟩) H.length H.length)).heap.size = w2.heap.size) := World.size_setCell ..
  have HA2 : Hid _ := HA.out.below B2
  go_wp2_with fail
  generalize w2.setCell ⟨w.heap.size, 1, none⟩ (.slice (some ⟨W1.heap.size, 0, none⟩) H.length H.length) = W2 at *
  clear q0 q1 q2 q3 q4 f0 f1 f2 f3 f4 qs HK1 HK2 HB2 HR2
  have z2 : W1.heap.size < W2.heap.size := by rw [HZ2.out]; exact t2
  refine (listI_any aF cF F W2 HA2.out.f).mono ?_
  rintro e w3 ⟨rfl, k3, hb3⟩
  have t3 : W2.heap.size < w3.heap.size := lt_of_block k3
  have b3 := B2.trans (hb3.mono B2.size)
  have HB3 : Hid _ := (hb3.block w.heap.size (by have := B2.size; omega)).trans HB2'.out
  have HR3 : Hid _ := (hb3.block (w.heap.size + 1) (by have := B2.size; omega)).trans HR2'.out
  have HK1 : Hid _ := (hb3.block W0.heap.size (by omega)).trans HK1_2.out
  have HK2 : Hid _ := (hb3.block W1.heap.size (by omega)).trans HK2_2.out
  have HK3 : Hid _ := k3
  clear k3 HB2' HR2' HK1_2 HK2_2 HZ2 HA2
  obtain ⟨q0, q1, q2, q3, q4, f0, f1, f2, f3, f4, qs⟩ := boxf HB3.out
  have B3 : Below w.heap.size w (w3.setCell ⟨w.heap.size, 2, none⟩ (.slice (some ⟨W2.heap.size, 0, none⟩) F.length F.length)) := b3.setCell (Nat.le_refl _) _
  have HB3' : Hid ((w3.setCell ⟨w.heap.size, 2, none⟩ (.slice (some ⟨W2.heap.size, 0, none⟩) F.length F.length)).heap[w.heap.size]? = some (.cells #[.slice (some ⟨W0.heap.size, 0, none⟩) S.length S.length, .slice (some ⟨W1.heap.size, 0, none⟩) H.length H.length, .slice (some ⟨W2.heap.size, 0, none⟩) F.length F.length, .slice aL L.length cL, .int .i64 now] 29 (0, 0))) := by
    have := block_setCell (i := 2) HB3.out (.slice (some ⟨W2.heap.size, 0, none⟩) F.length F.length)
    show _ = _
    simpa using this
  have HR3' : Hid _ := (Below.heap_setCell w3 ⟨w.heap.size, 2, none⟩ (.slice (some ⟨W2.heap.size, 0, none⟩) F.length F.length) (w.heap.size + 1) (by show w.heap.size + 1 ≠ w.heap.size; omega)).trans HR3.out
  have HK1_3 : Hid _ := (Below.heap_setCell w3 ⟨w.heap.size, 2, none⟩ (.slice (some ⟨W2.heap.size, 0, none⟩) F.length F.length) W0.heap.size (by show _ ≠ w.heap.size; omega)).trans HK1.out
  have HK2_3 : Hid _ := (Below.heap_setCell w3 ⟨w.heap.size, 2, none⟩ (.slice (some ⟨W2.heap.size, 0, none⟩) F.length F.length) W1.heap.size (by show _ ≠ w.heap.size; omega)).trans HK2.out
  have HK3_3 : Hid _ := (Below.heap_setCell w3 ⟨w.heap.size, 2, none⟩ (.slice (some ⟨W2.heap.size, 0, none⟩) F.length F.length) W2.heap.size (by show _ ≠ w.heap.size; omega)).trans HK3.out
  have HZ3 : Hid ((w3.setCell ⟨w.heap.size, 2, none⟩ (.slice (some ⟨W2.heap.size, 0, none⟩) F.length F.length)).heap.size = w3.heap.size) := World.size_setCell ..
  have HA3 : Hid _ := HA.out.below B3
  go_wp2_with fail
  generalize w3.setCell ⟨w.heap.size, 2, none⟩ (.slice (some ⟨W2.heap.size, 0, none⟩) F.length F.length) = W3 at *
  clear q0 q1 q2 q3 q4 f0 f1 f2 f3 f4 qs HK1 HK2 HK3 HB3 HR3
  have z3 : W2.heap.size < W3.heap.size := by rw [HZ3.out]; exact t3
  refine (listI_any aL cL L W3 HA3.out.l).mono ?_
  rintro e w4 ⟨rfl, k4, hb4⟩
  have t4 : W3.heap.size < w4.heap.size := lt_of_block k4
  have b4 := B3.trans (hb4.mono B3.size)
  have HB4 : Hid _ := (hb4.block w.heap.size (by have := B3.size; omega)).trans HB3'.out
  have HR4 : Hid _ := (hb4.block (w.heap.size + 1) (by have := B3.size; omega)).trans HR3'.out
  have HK1 : Hid _ := (hb4.block W0.heap.size (by omega)).trans HK1_3.out
  have HK2 : Hid _ := (hb4.block W1.heap.size (by omega)).trans HK2_3.out
  have HK3 : Hid _ := (hb4.block W2.heap.size (by omega)).trans HK3_3.out
  have HK4 : Hid _ := k4
  clear k4 HB3' HR3' HK1_3 HK2_3 HK3_3 HZ3 HA3
  obtain ⟨q0, q1, q2, q3, q4, f0, f1, f2, f3, f4, qs⟩ := boxf HB4.out
  obtain ⟨r0, r1, r2, r3, r4, g0, g1, g2, g3, g4, rs⟩ := boxf HR4.out
  have rs0 : w.heap.size + 1 ≠ w.heap.size := by omega
  go_wp2
  refine bodyPost_ret (v := .agg #[.slice (some ⟨W0.heap.size, 0, none⟩) S.length S.length, .slice (some ⟨W1.heap.size, 0, none⟩) H.length H.length, .slice (some ⟨W2.heap.size, 0, none⟩) F.length F.length, .slice (some ⟨W3.heap.size, 0, none⟩) L.length L.length, .int .i64 now]) (by simp [results, Try.results62, go_sem, r0, r1, r2, r3, r4]) rfl ⟨_, _, _, _, rfl, ⟨?_, ?_, ?_, ?_, ?_, ?_, ?_, ?_⟩, ?_⟩
  · omega
  · exact z1
  · exact z2
  · exact z3
  · repeat rw [Below.heap_setCell _ _ _ _ (by dsimp only; omega)]
    exact HK1.out
  · repeat rw [Below.heap_setCell _ _ _ _ (by dsimp only; omega)]
    exact HK2.out
  · repeat rw [Below.heap_setCell _ _ _ _ (by dsimp only; omega)]
    exact HK3.out
  · repeat rw [Below.heap_setCell _ _ _ _ (by dsimp only; omega)]
    exact HK4.out
  · iterate 6 (refine Below.setCell ?_ (by dsimp only; omega) _)
    exact b4
end Go.Proofs.Ytjkbglfceoiicaa.mm
