/- The contracts of Held and Let. -/
import Derived.Test.YtdbilofhcadmoaaChg
namespace Go.Proofs.Ytdbilofhcadmoaa.mm
open Go.ChangeShapes Go.WideShapes Go.ChangeAt Go.RowKit Go.Joins
set_option linter.unusedVariables false

set_option maxHeartbeats 1600000 in
theorem held_any (M : Mm) (v : Value) (i : Int) (w : World) (lo : Nat) (A : Ans lo w v M) :
    Calls Try.prog 22 #[v, .int .i64 i] w fun e w' => ∃ v, e = .returned (.tuple #[v, .int .i64 (heldE M i)]) ∧ Ans w.heap.size w' v (heldM M i) ∧ Below w.heap.size w w' := by
  obtain ⟨aS, aH, aF, aL, cS, cH, cF, cL, rfl, A, -⟩ := A
  generalize hE : heldE M i = E0
  generalize hM : heldM M i = M1
  have HE : Hid _ := hE
  have HM : Hid _ := hM
  clear hE hM
  obtain ⟨o1, ho1⟩ : ∃ o : Obj, o = .cells #[.slice aS M.slots.length cS, .slice aH M.heads.length cH, .slice aF M.free.length cF, .slice aL M.locks.length cL, .int .i64 M.now] 29 := ⟨_, rfl⟩
  obtain ⟨o2, ho2⟩ : ∃ o : Obj, o = .cells #[.slice none 0 0, .slice none 0 0, .slice none 0 0, .slice none 0 0, .int .i64 0] 29 := ⟨_, rfl⟩
  have b0 : Below w.heap.size w ((w.alloc o1).alloc o2) := below_alloc2 w o1 o2
  have HR0 : Hid (((w.alloc o1).alloc o2).heap[w.heap.size + 1]? = some o2) := by
    have := heap_alloc_new (w.alloc o1) o2
    rwa [show (w.alloc o1).heap.size = w.heap.size + 1 by simp] at this
  have HA0 : Hid _ := A.below b0
  clear A
  go_enter Try.func22, Try.ntmps22
  go_wp2_with fail
  rw [← ho1, ← ho2]
  generalize (w.alloc o1).alloc o2 = W0 at *
  subst ho1 ho2
  refine (changed_hold M aS aH aF aL cS cH cF cL i W0 HA0.out).mono ?_
  rw [HE.out, HM.out]
  rintro e w1 ⟨v1, rfl, ⟨aS', aH', aF', aL', cS', cH', cF', cL', rfl, A1, hi1⟩, hb1⟩
  have b1 := b0.trans (hb1.mono b0.size)
  have HR1 : Hid _ := (hb1.block (w.heap.size + 1) (lt_of_block HR0.out)).trans HR0.out
  have HA1 : Hid _ := A1
  have HL : Hid (w.heap.size + 1 < W0.heap.size) := lt_of_block HR0.out
  have HL2 : Hid (w.heap.size ≤ W0.heap.size) := b0.size
  clear hb1 b0 HA0 A1
  obtain ⟨r0, r1, r2, r3, r4, g0, g1, g2, g3, g4, rs⟩ := boxf HR1.out
  go_wp2
  refine bodyPost_ret (v := .tuple #[.agg #[.slice aS' M1.slots.length cS', .slice aH' M1.heads.length cH', .slice aF' M1.free.length cF', .slice aL' M1.locks.length cL', .int .i64 M1.now], .int .i64 E0]) (by simp [results, Try.results22, go_sem, r0, r1, r2, r3, r4]) rfl ⟨_, rfl, ?_, ?_⟩
  · have A6 := HA1.out.off hi1 HL.out (fun k hk => set5_other (w := w1) (v0 := .slice aS' M1.slots.length cS') (v1 := .slice aH' M1.heads.length cH') (v2 := .slice aF' M1.free.length cF') (v3 := .slice aL' M1.locks.length cL') (v4 := .int .i64 M1.now) hk)
    exact ⟨aS', aH', aF', aL', cS', cH', cF', cL', rfl, A6, hi1.mono HL2.out⟩
  · exact b1.trans (set5_below w1 _ _ _ _ _ _ _ (by omega))

set_option maxHeartbeats 1600000 in
theorem let_any (M : Mm) (v : Value) (i : Int) (w : World) (lo : Nat) (A : Ans lo w v M) :
    Calls Try.prog 23 #[v, .int .i64 i] w fun e w' => ∃ v, e = .returned (.tuple #[v, .int .i64 (letE M i)]) ∧ Ans w.heap.size w' v (letM M i) ∧ Below w.heap.size w w' := by
  obtain ⟨aS, aH, aF, aL, cS, cH, cF, cL, rfl, A, -⟩ := A
  generalize hE : letE M i = E0
  generalize hM : letM M i = M1
  have HE : Hid _ := hE
  have HM : Hid _ := hM
  clear hE hM
  obtain ⟨o1, ho1⟩ : ∃ o : Obj, o = .cells #[.slice aS M.slots.length cS, .slice aH M.heads.length cH, .slice aF M.free.length cF, .slice aL M.locks.length cL, .int .i64 M.now] 29 := ⟨_, rfl⟩
  obtain ⟨o2, ho2⟩ : ∃ o : Obj, o = .cells #[.slice none 0 0, .slice none 0 0, .slice none 0 0, .slice none 0 0, .int .i64 0] 29 := ⟨_, rfl⟩
  have b0 : Below w.heap.size w ((w.alloc o1).alloc o2) := below_alloc2 w o1 o2
  have HR0 : Hid (((w.alloc o1).alloc o2).heap[w.heap.size + 1]? = some o2) := by
    have := heap_alloc_new (w.alloc o1) o2
    rwa [show (w.alloc o1).heap.size = w.heap.size + 1 by simp] at this
  have HA0 : Hid _ := A.below b0
  clear A
  go_enter Try.func23, Try.ntmps23
  go_wp2_with fail
  rw [← ho1, ← ho2]
  generalize (w.alloc o1).alloc o2 = W0 at *
  subst ho1 ho2
  refine (changed_put M aS aH aF aL cS cH cF cL i W0 HA0.out).mono ?_
  rw [HE.out, HM.out]
  rintro e w1 ⟨v1, rfl, ⟨aS', aH', aF', aL', cS', cH', cF', cL', rfl, A1, hi1⟩, hb1⟩
  have b1 := b0.trans (hb1.mono b0.size)
  have HR1 : Hid _ := (hb1.block (w.heap.size + 1) (lt_of_block HR0.out)).trans HR0.out
  have HA1 : Hid _ := A1
  have HL : Hid (w.heap.size + 1 < W0.heap.size) := lt_of_block HR0.out
  have HL2 : Hid (w.heap.size ≤ W0.heap.size) := b0.size
  clear hb1 b0 HA0 A1
  obtain ⟨r0, r1, r2, r3, r4, g0, g1, g2, g3, g4, rs⟩ := boxf HR1.out
  go_wp2
  refine bodyPost_ret (v := .tuple #[.agg #[.slice aS' M1.slots.length cS', .slice aH' M1.heads.length cH', .slice aF' M1.free.length cF', .slice aL' M1.locks.length cL', .int .i64 M1.now], .int .i64 E0]) (by simp [results, Try.results23, go_sem, r0, r1, r2, r3, r4]) rfl ⟨_, rfl, ?_, ?_⟩
  · have A6 := HA1.out.off hi1 HL.out (fun k hk => set5_other (w := w1) (v0 := .slice aS' M1.slots.length cS') (v1 := .slice aH' M1.heads.length cH') (v2 := .slice aF' M1.free.length cF') (v3 := .slice aL' M1.locks.length cL') (v4 := .int .i64 M1.now) hk)
    exact ⟨aS', aH', aF', aL', cS', cH', cF', cL', rfl, A6, hi1.mono HL2.out⟩
  · exact b1.trans (set5_below w1 _ _ _ _ _ _ _ (by omega))


end Go.Proofs.Ytdbilofhcadmoaa.mm
