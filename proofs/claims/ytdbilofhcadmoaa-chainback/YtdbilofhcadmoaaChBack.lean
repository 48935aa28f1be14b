/- ChainBack: what is linked is mapped, and what is cut out is not; all other flows stay; chains stay right; what is cut out can be linked again. -/
import Derived.Test.YtdbilofhcadmoaaBackP
namespace Go.Proofs.Ytdbilofhcadmoaa.mm
open Go.ChangeShapes Go.WideShapes Go.ChangeAt Go.RowKit Go.Joins Go.Maps
set_option maxRecDepth 100000
set_option linter.unusedVariables false

theorem slotf {w : World} {B : Nat} {v0 v1 v2 v3 v4 v5 : Value} {t : TypeId} (h : w.heap[B]? = some (.cells #[v0, v1, v2, v3, v4, v5] t (0, 0))) :
    w.cell? ⟨B, 0, none⟩ = some v0 ∧ w.cell? ⟨B, 1, none⟩ = some v1 ∧ w.cell? ⟨B, 2, none⟩ = some v2 ∧ w.cell? ⟨B, 3, none⟩ = some v3 ∧ w.cell? ⟨B, 4, none⟩ = some v4 ∧ w.cell? ⟨B, 5, none⟩ = some v5 ∧ B < w.heap.size :=
  ⟨by rw [cell_of_block h]; rfl, by rw [cell_of_block h]; rfl, by rw [cell_of_block h]; rfl, by rw [cell_of_block h]; rfl, by rw [cell_of_block h]; rfl, by rw [cell_of_block h]; rfl, lt_of_block h⟩

set_option maxHeartbeats 3200000 in
theorem chback_any (M : Mm) (v : Value) (a ka kb : Int) (w : World) (A : Ans 0 w v M) (ha : -9223372036854775808 ≤ a ∧ a ≤ 9223372036854775807) :
    Calls Try.prog 11 #[v, .int .i64 a, .agg #[.int .i64 ka, .int .i64 kb]] w fun e w' => e = .returned (.bool true) ∧ Below w.heap.size w w' := by
  obtain ⟨aS, aH, aF, aL, cS, cH, cF, cL, rfl, A, hi0⟩ := A
  have HAt : Hid (At w aS aH aF aL cS cH cF cL M) := A
  clear A hi0
  obtain ⟨o1, ho1⟩ : ∃ o : Obj, o = .cells #[.slice aS M.slots.length cS, .slice aH M.heads.length cH, .slice aF M.free.length cF, .slice aL M.locks.length cL, .int .i64 M.now] 29 := ⟨_, rfl⟩
  obtain ⟨o2, ho2⟩ : ∃ o : Obj, o = .cells #[.int .i64 ka, .int .i64 kb] 37 := ⟨_, rfl⟩
  have HW0 : Hid (Below w.heap.size w ((w.alloc o1).alloc o2)) := below_alloc2 w o1 o2
  have HX0 : Hid (((w.alloc o1).alloc o2).heap[w.heap.size]? = some o1) := by show _ = _; rw [Below.heap_alloc _ _ _ (by simp), heap_alloc_new]
  have HK0 : Hid (((w.alloc o1).alloc o2).heap[w.heap.size + 1]? = some o2) := by
    have := heap_alloc_new (w.alloc o1) o2
    rwa [show (w.alloc o1).heap.size = w.heap.size + 1 by simp] at this
  have hmf : ∀ (fn : Fn) (first cap : Array Value) (w : World), (Instr.makeFunc fn first cap).run Try.prog w = .ok (.func fn first cap) w := fun _ _ _ _ => rfl
  go_enter Try.func11, Try.ntmps11
  go_wp2_with fail
  rw [← ho1, ← ho2]
  generalize (w.alloc o1).alloc o2 = W0 at *
  subst ho1 ho2
  obtain ⟨fl0, hfl0⟩ : ∃ fl0, fl0 = flowsM M := ⟨_, rfl⟩
  have HL0 : Hid (flowsM M = fl0) := hfl0.symm
  clear hfl0
  have HAn0 : Hid (Ans 0 W0 (.agg #[.slice aS M.slots.length cS, .slice aH M.heads.length cH, .slice aF M.free.length cF, .slice aL M.locks.length cL, .int .i64 M.now]) M) := ⟨aS, aH, aF, aL, cS, cH, cF, cL, rfl, HAt.out.below HW0.out, ⟨fun _ _ => Nat.zero_le _, fun _ _ => Nat.zero_le _, fun _ _ => Nat.zero_le _, fun _ _ => Nat.zero_le _⟩⟩
  refine (flows_at HL0.out rfl _ W0 0 HAn0.out).mono ?_
  rintro e w1 ⟨ao1, cap1, rfl, hr1, b1⟩
  have HX1 : Hid (w1.heap[w.heap.size]? = some (.cells #[.slice aS M.slots.length cS, .slice aH M.heads.length cH, .slice aF M.free.length cF, .slice aL M.locks.length cL, .int .i64 M.now] 29 (0, 0))) := (b1.block w.heap.size (lt_of_block HX0.out)).trans HX0.out
  have HK1 : Hid (w1.heap[w.heap.size + 1]? = some (.cells #[.int .i64 ka, .int .i64 kb] 37 (0, 0))) := (b1.block (w.heap.size + 1) (lt_of_block HK0.out)).trans HK0.out
  have HW1 : Hid (Below w.heap.size w w1) := HW0.out.trans (b1.mono HW0.out.size)
  obtain ⟨V, hV⟩ : ∃ V, V = w1.heap.size := ⟨_, rfl⟩
  have HV2 : Hid ((w1.alloc (.cells #[.slice ao1 fl0.length cap1] 60)).heap[V]? = some (.cells #[.slice ao1 fl0.length cap1] 60 (0, 0))) := by rw [hV]; exact heap_alloc_new _ _
  have HX2 : Hid ((w1.alloc (.cells #[.slice ao1 fl0.length cap1] 60)).heap[w.heap.size]? = some (.cells #[.slice aS M.slots.length cS, .slice aH M.heads.length cH, .slice aF M.free.length cF, .slice aL M.locks.length cL, .int .i64 M.now] 29 (0, 0))) := (Below.heap_alloc _ _ _ (lt_of_block HX1.out)).trans HX1.out
  have HK2 : Hid ((w1.alloc (.cells #[.slice ao1 fl0.length cap1] 60)).heap[w.heap.size + 1]? = some (.cells #[.int .i64 ka, .int .i64 kb] 37 (0, 0))) := (Below.heap_alloc _ _ _ (lt_of_block HK1.out)).trans HK1.out
  have HF2 : Hid (FRow (w1.alloc (.cells #[.slice ao1 fl0.length cap1] 60)) ao1 cap1 fl0) := hr1.below (one_below _ _)
  have HW2 : Hid (Below w.heap.size w (w1.alloc (.cells #[.slice ao1 fl0.length cap1] 60))) := HW1.out.alloc HW1.out.size _
  clear hr1 b1 HX0 HK0 HW0 HX1 HK1 HW1 HAn0
  go_wp2_with fail
  rw [← hV]
  generalize hW2 : w1.alloc (.cells #[.slice ao1 fl0.length cap1] 60) = W2 at *
  clear hW2 hV
  refine (chained_any W2).mono ?_
  rintro e w3 ⟨rfl, b3⟩
  have HX3 : Hid (w3.heap[w.heap.size]? = some (.cells #[.slice aS M.slots.length cS, .slice aH M.heads.length cH, .slice aF M.free.length cF, .slice aL M.locks.length cL, .int .i64 M.now] 29 (0, 0))) := (b3.block (w.heap.size) (lt_of_block HX2.out)).trans HX2.out
  have HK3 : Hid (w3.heap[w.heap.size + 1]? = some (.cells #[.int .i64 ka, .int .i64 kb] 37 (0, 0))) := (b3.block (w.heap.size + 1) (lt_of_block HK2.out)).trans HK2.out
  have HV3 : Hid (w3.heap[V]? = some (.cells #[.slice ao1 fl0.length cap1] 60 (0, 0))) := (b3.block (V) (lt_of_block HV2.out)).trans HV2.out
  have HF3 : Hid (FRow w3 ao1 cap1 fl0) := HF2.out.below b3
  have HW3 : Hid (Below w.heap.size w w3) := HW2.out.trans (b3.mono HW2.out.size)
  clear HX2 HK2 HV2 HF2 HW2
  clear b3
  by_cases hC : chkC M = 0
  rotate_left
  · have h2 : (chkC M != 0) = true := by simpa using hC
    generalize chkC M = EC at *
    go_wp2_with fail
    refine (chained_any w3).mono ?_
    rintro e w4 ⟨rfl, b4⟩
    have HW4 : Hid (Below w.heap.size w w4) := HW3.out.trans (b4.mono HW3.out.size)
    go_wp2
    go_ret
    exact ⟨rfl, HW4.out⟩
  have hokc := (chkC_zero M).1 hC
  have hok := hokc.ok
  have HFA : Hid (fl0 = flA M) := HL0.out.symm.trans (flowsM_ok hokc)
  have hsz0 : fl0.length ≤ 48 := by rw [HFA.out]; exact flA_le hok
  rw [hC]
  clear hC
  obtain ⟨q0, q1, q2, q3, q4, f0, f1, f2, f3, f4, qs⟩ := boxf HX3.out
  obtain ⟨p0, p1⟩ := keyf HK3.out
  obtain ⟨v0, -, vs⟩ := var_cell HV3.out
  have ps := lt_of_block HK3.out
  clear f0 f1 f2 f3 f4
  have HAn3 : Hid (Ans 0 w3 (.agg #[.slice aS M.slots.length cS, .slice aH M.heads.length cH, .slice aF M.free.length cF, .slice aL M.locks.length cL, .int .i64 M.now]) M) := ⟨aS, aH, aF, aL, cS, cH, cF, cL, rfl, HAt.out.below HW3.out, ⟨fun _ _ => Nat.zero_le _, fun _ _ => Nat.zero_le _, fun _ _ => Nat.zero_le _, fun _ _ => Nat.zero_le _⟩⟩
  obtain ⟨Mx, hMx⟩ : ∃ Mx, Mx = linkedM M a := ⟨_, rfl⟩
  obtain ⟨Ex, hEx⟩ : ∃ Ex, Ex = linkE M a := ⟨_, rfl⟩
  have HMx : Hid (Mx = linkedM M a) := hMx
  have HEx : Hid (Ex = linkE M a) := hEx
  clear hMx hEx
  go_wp2_with fail
  refine (linked_at HMx.out.symm HEx.out.symm _ w3 0 HAn3.out).mono ?_
  rintro e w4 ⟨v4, rfl, ⟨xS, xH, xF, xL, dS, dH, dF, dL, rfl, A4, hi4⟩, b4⟩
  clear q0 q1 q2 q3 q4 qs p0 p1 ps v0 vs
  have HX4 : Hid (w4.heap[w.heap.size]? = some (.cells #[.slice aS M.slots.length cS, .slice aH M.heads.length cH, .slice aF M.free.length cF, .slice aL M.locks.length cL, .int .i64 M.now] 29 (0, 0))) := (b4.block (w.heap.size) (lt_of_block HX3.out)).trans HX3.out
  have HK4 : Hid (w4.heap[w.heap.size + 1]? = some (.cells #[.int .i64 ka, .int .i64 kb] 37 (0, 0))) := (b4.block (w.heap.size + 1) (lt_of_block HK3.out)).trans HK3.out
  have HV4 : Hid (w4.heap[V]? = some (.cells #[.slice ao1 fl0.length cap1] 60 (0, 0))) := (b4.block (V) (lt_of_block HV3.out)).trans HV3.out
  have HF4 : Hid (FRow w4 ao1 cap1 fl0) := HF3.out.below b4
  have HW4 : Hid (Below w.heap.size w w4) := HW3.out.trans (b4.mono HW3.out.size)
  clear HX3 HK3 HV3 HF3 HW3
  have HA4 : Hid (At w4 xS xH xF xL dS dH dF dL Mx) := A4
  clear A4 hi4 b4 HAn3
  by_cases hE : Ex = 0
  · subst hE
    obtain ⟨-, hsl, hrf, hky⟩ := linkE_zero HEx.out.symm
    obtain ⟨j, rfl, hjs⟩ := (isSl_iff M a).1 hsl
    have hMl : Mx = linkM M j := HMx.out.trans (by unfold linkedM; rw [← HEx.out, if_pos rfl])
    have hsay := link_says hokc hsl hrf hky
    rw [← hMl] at hsay
    have hslj : slotAt M j = M.slots[j] := slotAt_lt hjs
    have y1 := hsay.no
    have y2 := hsay.yes
    rw [hslj] at y1 y2
    obtain ⟨flx, hflx⟩ : ∃ flx, flx = flA Mx := ⟨_, rfl⟩
    have hszx : flx.length ≤ 48 := by rw [hflx]; exact flA_le hsay.okc.ok
    have HLx : Hid (flowsM Mx = flx ∧ chkC Mx = 0) := ⟨by rw [hflx]; exact flowsM_ok hsay.okc, (chkC_zero Mx).2 hsay.okc⟩
    have hlx : flx.length = fl0.length + 1 := by rw [hflx, HFA.out]; exact hsay.len
    have HSx : Hid (hasKF fl0 M.slots[j].a M.slots[j].b = false ∧ hasF flx ⟨M.slots[j].a, M.slots[j].b, j, M.slots[j].unt⟩ = true ∧ fl0.any (fun f => !hasF flx f) = false) := by
      rw [hflx, HFA.out]; exact ⟨y1, y2, hsay.all⟩
    have hlix : ((flx.length : Int) != (fl0.length : Int) + 1) = false := by rw [hlx]; simp
    clear hlx hflx hsay hMl hsl hrf hky y1 y2
    rcases (HAt.out.below HW4.out).s.at_ with h0 | ⟨bs, os, rfl, hcs⟩
    · omega
    obtain ⟨s0, s1, s2, s3, s4, s5⟩ := hcs j hjs
    have ls := cell_lt s1
    generalize M.slots[j] = sj at s0 s1 s2 s3 s4 s5 hslj HSx
    obtain ⟨r, ja, jb, u, ii, nx⟩ := sj
    dsimp only at s0 s1 s2 s3 s4 s5 HSx
    clear hcs hslj
    obtain ⟨q0, q1, q2, q3, q4, f0, f1, f2, f3, f4, qs⟩ := boxf HX4.out
    obtain ⟨p0, p1⟩ := keyf HK4.out
    obtain ⟨v0, -, vs⟩ := var_cell HV4.out
    have ps := lt_of_block HK4.out
    clear f0 f1 f2 f3 f4
    obtain ⟨o5, ho5⟩ : ∃ o : Obj, o = .cells #[.slice xS Mx.slots.length dS, .slice xH Mx.heads.length dH, .slice xF Mx.free.length dF, .slice xL Mx.locks.length dL, .int .i64 Mx.now] 29 := ⟨_, rfl⟩
    obtain ⟨o6, ho6⟩ : ∃ o : Obj, o = .cells #[.int .i64 r, .int .i64 ja, .int .i64 jb, .int .i64 u, .bool ii, .int .i64 nx] 48 := ⟨_, rfl⟩
    have HX5 : Hid ((w4.alloc o5).heap[w.heap.size]? = some (.cells #[.slice (some ⟨bs, os, none⟩) M.slots.length cS, .slice aH M.heads.length cH, .slice aF M.free.length cF, .slice aL M.locks.length cL, .int .i64 M.now] 29 (0, 0))) := (Below.heap_alloc _ _ _ (lt_of_block HX4.out)).trans HX4.out
    have HK5 : Hid ((w4.alloc o5).heap[w.heap.size + 1]? = some (.cells #[.int .i64 ka, .int .i64 kb] 37 (0, 0))) := (Below.heap_alloc _ _ _ (lt_of_block HK4.out)).trans HK4.out
    have HV5 : Hid ((w4.alloc o5).heap[V]? = some (.cells #[.slice ao1 fl0.length cap1] 60 (0, 0))) := (Below.heap_alloc _ _ _ (lt_of_block HV4.out)).trans HV4.out
    have HF5 : Hid (FRow (w4.alloc o5) ao1 cap1 fl0) := HF4.out.below (one_below _ _)
    have HW5 : Hid (Below w.heap.size w (w4.alloc o5)) := HW4.out.alloc HW4.out.size _
    clear HX4 HK4 HV4 HF4 HW4
    have HX6 : Hid (((w4.alloc o5).alloc o6).heap[w.heap.size]? = some (.cells #[.slice (some ⟨bs, os, none⟩) M.slots.length cS, .slice aH M.heads.length cH, .slice aF M.free.length cF, .slice aL M.locks.length cL, .int .i64 M.now] 29 (0, 0))) := (Below.heap_alloc _ _ _ (lt_of_block HX5.out)).trans HX5.out
    have HK6 : Hid (((w4.alloc o5).alloc o6).heap[w.heap.size + 1]? = some (.cells #[.int .i64 ka, .int .i64 kb] 37 (0, 0))) := (Below.heap_alloc _ _ _ (lt_of_block HK5.out)).trans HK5.out
    have HV6 : Hid (((w4.alloc o5).alloc o6).heap[V]? = some (.cells #[.slice ao1 fl0.length cap1] 60 (0, 0))) := (Below.heap_alloc _ _ _ (lt_of_block HV5.out)).trans HV5.out
    have HF6 : Hid (FRow ((w4.alloc o5).alloc o6) ao1 cap1 fl0) := HF5.out.below (one_below _ _)
    have HW6 : Hid (Below w.heap.size w ((w4.alloc o5).alloc o6)) := HW5.out.alloc HW5.out.size _
    clear HX5 HK5 HV5 HF5 HW5
    have HS6 : Hid (((w4.alloc o5).alloc o6).heap[w4.heap.size + 1]? = some o6) := by
      have := heap_alloc_new (w4.alloc o5) o6
      rwa [show (w4.alloc o5).heap.size = w4.heap.size + 1 by simp] at this
    have HA6 : Hid (Ans 0 ((w4.alloc o5).alloc o6) (.agg #[.slice xS Mx.slots.length dS, .slice xH Mx.heads.length dH, .slice xF Mx.free.length dF, .slice xL Mx.locks.length dL, .int .i64 Mx.now]) Mx) := ⟨xS, xH, xF, xL, dS, dH, dF, dL, rfl, (HA4.out.below (one_below _ _)).below (one_below _ _), ⟨fun _ _ => Nat.zero_le _, fun _ _ => Nat.zero_le _, fun _ _ => Nat.zero_le _, fun _ _ => Nat.zero_le _⟩⟩
    clear HA4
    go_wp2_with fail
    rw [← ho5, ← ho6]
    generalize (w4.alloc o5).alloc o6 = W6 at *
    subst ho5 ho6
    clear s0 s1 s2 s3 s4 s5 ls
    clear q0 q1 q2 q3 q4 qs p0 p1 ps v0 vs
    refine (flows_at HLx.out.1 HLx.out.2 _ W6 0 HA6.out).mono ?_
    rintro e w7 ⟨ao7, cap7, rfl, hr7, b7⟩
    have HX7 : Hid (w7.heap[w.heap.size]? = some (.cells #[.slice (some ⟨bs, os, none⟩) M.slots.length cS, .slice aH M.heads.length cH, .slice aF M.free.length cF, .slice aL M.locks.length cL, .int .i64 M.now] 29 (0, 0))) := (b7.block (w.heap.size) (lt_of_block HX6.out)).trans HX6.out
    have HK7 : Hid (w7.heap[w.heap.size + 1]? = some (.cells #[.int .i64 ka, .int .i64 kb] 37 (0, 0))) := (b7.block (w.heap.size + 1) (lt_of_block HK6.out)).trans HK6.out
    have HV7 : Hid (w7.heap[V]? = some (.cells #[.slice ao1 fl0.length cap1] 60 (0, 0))) := (b7.block (V) (lt_of_block HV6.out)).trans HV6.out
    have HF7 : Hid (FRow w7 ao1 cap1 fl0) := HF6.out.below b7
    have HW7 : Hid (Below w.heap.size w w7) := HW6.out.trans (b7.mono HW6.out.size)
    clear HX6 HK6 HV6 HF6 HW6
    have HS7 : Hid (w7.heap[w4.heap.size + 1]? = some (.cells #[.int .i64 r, .int .i64 ja, .int .i64 jb, .int .i64 u, .bool ii, .int .i64 nx] 48 (0, 0))) := (b7.block (w4.heap.size + 1) (lt_of_block HS6.out)).trans HS6.out
    have HG8 : Hid (FRow (w7.alloc (.cells #[.slice ao7 flx.length cap7] 60)) ao7 cap7 flx) := hr7.below (one_below _ _)
    have HU8 : Hid ((w7.alloc (.cells #[.slice ao7 flx.length cap7] 60)).heap[w7.heap.size]? = some (.cells #[.slice ao7 flx.length cap7] 60)) := heap_alloc_new _ _
    have HS8 : Hid ((w7.alloc (.cells #[.slice ao7 flx.length cap7] 60)).heap[w4.heap.size + 1]? = some (.cells #[.int .i64 r, .int .i64 ja, .int .i64 jb, .int .i64 u, .bool ii, .int .i64 nx] 48 (0, 0))) := (Below.heap_alloc _ _ _ (lt_of_block HS7.out)).trans HS7.out
    clear hr7 b7 HS6 HA6
    obtain ⟨q0, q1, q2, q3, q4, f0, f1, f2, f3, f4, qs⟩ := boxf HX7.out
    obtain ⟨p0, p1⟩ := keyf HK7.out
    obtain ⟨v0, -, vs⟩ := var_cell HV7.out
    have ps := lt_of_block HK7.out
    clear f0 f1 f2 f3 f4
    obtain ⟨t0, t1, t2, t3, t4, t5, ts⟩ := slotf HS7.out
    have HX8 : Hid ((w7.alloc (.cells #[.slice ao7 flx.length cap7] 60)).heap[w.heap.size]? = some (.cells #[.slice (some ⟨bs, os, none⟩) M.slots.length cS, .slice aH M.heads.length cH, .slice aF M.free.length cF, .slice aL M.locks.length cL, .int .i64 M.now] 29 (0, 0))) := (Below.heap_alloc _ _ _ (lt_of_block HX7.out)).trans HX7.out
    have HK8 : Hid ((w7.alloc (.cells #[.slice ao7 flx.length cap7] 60)).heap[w.heap.size + 1]? = some (.cells #[.int .i64 ka, .int .i64 kb] 37 (0, 0))) := (Below.heap_alloc _ _ _ (lt_of_block HK7.out)).trans HK7.out
    have HV8 : Hid ((w7.alloc (.cells #[.slice ao7 flx.length cap7] 60)).heap[V]? = some (.cells #[.slice ao1 fl0.length cap1] 60 (0, 0))) := (Below.heap_alloc _ _ _ (lt_of_block HV7.out)).trans HV7.out
    have HF8 : Hid (FRow (w7.alloc (.cells #[.slice ao7 flx.length cap7] 60)) ao1 cap1 fl0) := HF7.out.below (one_below _ _)
    have HW8 : Hid (Below w.heap.size w (w7.alloc (.cells #[.slice ao7 flx.length cap7] 60))) := HW7.out.alloc HW7.out.size _
    clear HX7 HK7 HV7 HF7 HW7
    clear HS7
    go_wp2_with fail
    generalize hW8 : w7.alloc (.cells #[.slice ao7 flx.length cap7] 60) = W8 at *
    clear hW8 t0 t1 t2 t3 t4 t5 ts
    clear q0 q1 q2 q3 q4 qs p0 p1 ps v0 vs
    refine (has_any ao1 cap1 fl0 ja jb W8 (by omega) HF8.out).mono ?_
    rw [HSx.out.1]
    rintro e w9 ⟨rfl, b9⟩
    have HX9 : Hid (w9.heap[w.heap.size]? = some (.cells #[.slice (some ⟨bs, os, none⟩) M.slots.length cS, .slice aH M.heads.length cH, .slice aF M.free.length cF, .slice aL M.locks.length cL, .int .i64 M.now] 29 (0, 0))) := (b9.block (w.heap.size) (lt_of_block HX8.out)).trans HX8.out
    have HK9 : Hid (w9.heap[w.heap.size + 1]? = some (.cells #[.int .i64 ka, .int .i64 kb] 37 (0, 0))) := (b9.block (w.heap.size + 1) (lt_of_block HK8.out)).trans HK8.out
    have HV9 : Hid (w9.heap[V]? = some (.cells #[.slice ao1 fl0.length cap1] 60 (0, 0))) := (b9.block (V) (lt_of_block HV8.out)).trans HV8.out
    have HF9 : Hid (FRow w9 ao1 cap1 fl0) := HF8.out.below b9
    have HW9 : Hid (Below w.heap.size w w9) := HW8.out.trans (b9.mono HW8.out.size)
    clear HX8 HK8 HV8 HF8 HW8
    have HS9 : Hid (w9.heap[w4.heap.size + 1]? = some (.cells #[.int .i64 r, .int .i64 ja, .int .i64 jb, .int .i64 u, .bool ii, .int .i64 nx] 48 (0, 0))) := (b9.block (w4.heap.size + 1) (lt_of_block HS8.out)).trans HS8.out
    have HG9 : Hid (FRow w9 ao7 cap7 flx) := HG8.out.below b9
    have HU9 : Hid (w9.heap[w7.heap.size]? = some (.cells #[.slice ao7 flx.length cap7] 60 (0, 0))) := (b9.block w7.heap.size (lt_of_block HU8.out)).trans HU8.out
    clear b9 HS8 HG8 HU8
    obtain ⟨t0, t1, t2, t3, t4, t5, ts⟩ := slotf HS9.out
    obtain ⟨u0, -, us⟩ := var_cell HU9.out
    go_wp2_with fail
    refine (containsF_any ao7 cap7 flx ⟨ja, jb, j, u⟩ w9 (by omega) HG9.out).mono ?_
    rw [HSx.out.2.1]
    rintro e w10 ⟨rfl, b10⟩
    have HX10 : Hid (w10.heap[w.heap.size]? = some (.cells #[.slice (some ⟨bs, os, none⟩) M.slots.length cS, .slice aH M.heads.length cH, .slice aF M.free.length cF, .slice aL M.locks.length cL, .int .i64 M.now] 29 (0, 0))) := (b10.block (w.heap.size) (lt_of_block HX9.out)).trans HX9.out
    have HK10 : Hid (w10.heap[w.heap.size + 1]? = some (.cells #[.int .i64 ka, .int .i64 kb] 37 (0, 0))) := (b10.block (w.heap.size + 1) (lt_of_block HK9.out)).trans HK9.out
    have HV10 : Hid (w10.heap[V]? = some (.cells #[.slice ao1 fl0.length cap1] 60 (0, 0))) := (b10.block (V) (lt_of_block HV9.out)).trans HV9.out
    have HF10 : Hid (FRow w10 ao1 cap1 fl0) := HF9.out.below b10
    have HW10 : Hid (Below w.heap.size w w10) := HW9.out.trans (b10.mono HW9.out.size)
    clear HX9 HK9 HV9 HF9 HW9
    have HG10 : Hid (FRow w10 ao7 cap7 flx) := HG9.out.below b10
    have HU10 : Hid (w10.heap[w7.heap.size]? = some (.cells #[.slice ao7 flx.length cap7] 60 (0, 0))) := (b10.block w7.heap.size (lt_of_block HU9.out)).trans HU9.out
    clear b10 HS9 HG9 HU9 t0 t1 t2 t3 t4 t5 ts u0 us
    obtain ⟨q0, q1, q2, q3, q4, f0, f1, f2, f3, f4, qs⟩ := boxf HX10.out
    obtain ⟨p0, p1⟩ := keyf HK10.out
    obtain ⟨v0, -, vs⟩ := var_cell HV10.out
    have ps := lt_of_block HK10.out
    clear f0 f1 f2 f3 f4
    go_wp2_with fail
    refine (containsFn_any 53 #[.pointer (some ⟨w7.heap.size, 0, none⟩)] (fun f => !hasF flx f) ao1 cap1 fl0 w10 (by omega) HF10.out fn53 (fun x W hW => not_in53 ao7 cap7 flx w7.heap.size x W (by omega) ((hW.block w7.heap.size (lt_of_block HU10.out)).trans HU10.out) (HG10.out.below hW))).mono ?_
    rw [HSx.out.2.2]
    rintro e w11 ⟨rfl, b11⟩
    clear q0 q1 q2 q3 q4 qs p0 p1 ps v0 vs
    have HX11 : Hid (w11.heap[w.heap.size]? = some (.cells #[.slice (some ⟨bs, os, none⟩) M.slots.length cS, .slice aH M.heads.length cH, .slice aF M.free.length cF, .slice aL M.locks.length cL, .int .i64 M.now] 29 (0, 0))) := (b11.block (w.heap.size) (lt_of_block HX10.out)).trans HX10.out
    have HK11 : Hid (w11.heap[w.heap.size + 1]? = some (.cells #[.int .i64 ka, .int .i64 kb] 37 (0, 0))) := (b11.block (w.heap.size + 1) (lt_of_block HK10.out)).trans HK10.out
    have HV11 : Hid (w11.heap[V]? = some (.cells #[.slice ao1 fl0.length cap1] 60 (0, 0))) := (b11.block (V) (lt_of_block HV10.out)).trans HV10.out
    have HF11 : Hid (FRow w11 ao1 cap1 fl0) := HF10.out.below b11
    have HW11 : Hid (Below w.heap.size w w11) := HW10.out.trans (b11.mono HW10.out.size)
    clear HX10 HK10 HV10 HF10 HW10
    clear b11 HG10 HU10
    obtain ⟨q0, q1, q2, q3, q4, f0, f1, f2, f3, f4, qs⟩ := boxf HX11.out
    obtain ⟨p0, p1⟩ := keyf HK11.out
    obtain ⟨v0, -, vs⟩ := var_cell HV11.out
    have ps := lt_of_block HK11.out
    clear f0 f1 f2 f3 f4
    obtain ⟨My, hMy⟩ : ∃ My, My = withoutM M ka kb := ⟨_, rfl⟩
    obtain ⟨Ny, hNy⟩ : ∃ Ny, Ny = withoutN M ka kb := ⟨_, rfl⟩
    obtain ⟨Ey, hEy⟩ : ∃ Ey, Ey = withoutE M ka kb := ⟨_, rfl⟩
    have HMy : Hid (My = withoutM M ka kb) := hMy
    have HNy : Hid (Ny = withoutN M ka kb) := hNy
    have HEy : Hid (Ey = withoutE M ka kb) := hEy
    clear hMy hNy hEy
    go_wp2_with fail
    have HAn : Hid (Ans 0 w11 (.agg #[.slice (some ⟨bs, os, none⟩) M.slots.length cS, .slice aH M.heads.length cH, .slice aF M.free.length cF, .slice aL M.locks.length cL, .int .i64 M.now]) M) := ⟨(some ⟨bs, os, none⟩), aH, aF, aL, cS, cH, cF, cL, rfl, HAt.out.below HW11.out, ⟨fun _ _ => Nat.zero_le _, fun _ _ => Nat.zero_le _, fun _ _ => Nat.zero_le _, fun _ _ => Nat.zero_le _⟩⟩
    refine (without_at HMy.out.symm HNy.out.symm HEy.out.symm _ w11 0 HAn.out).mono ?_
    rintro e w20 ⟨v20, rfl, ⟨yS, yH, yF, yL, zS, zH, zF, zL, rfl, A20, hi20⟩, b20⟩
    have HA20 : Hid (At w20 yS yH yF yL zS zH zF zL My) := A20
    clear q0 q1 q2 q3 q4 qs p0 p1 ps v0 vs
    have HX20 : Hid (w20.heap[w.heap.size]? = some (.cells #[.slice (some ⟨bs, os, none⟩) M.slots.length cS, .slice aH M.heads.length cH, .slice aF M.free.length cF, .slice aL M.locks.length cL, .int .i64 M.now] 29 (0, 0))) := (b20.block (w.heap.size) (lt_of_block HX11.out)).trans HX11.out
    have HK20 : Hid (w20.heap[w.heap.size + 1]? = some (.cells #[.int .i64 ka, .int .i64 kb] 37 (0, 0))) := (b20.block (w.heap.size + 1) (lt_of_block HK11.out)).trans HK11.out
    have HV20 : Hid (w20.heap[V]? = some (.cells #[.slice ao1 fl0.length cap1] 60 (0, 0))) := (b20.block (V) (lt_of_block HV11.out)).trans HV11.out
    have HF20 : Hid (FRow w20 ao1 cap1 fl0) := HF11.out.below b20
    have HW20 : Hid (Below w.heap.size w w20) := HW11.out.trans (b20.mono HW11.out.size)
    clear HX11 HK11 HV11 HF11 HW11
    clear A20 hi20 b20 HAn
    obtain ⟨q0, q1, q2, q3, q4, f0, f1, f2, f3, f4, qs⟩ := boxf HX20.out
    obtain ⟨p0, p1⟩ := keyf HK20.out
    obtain ⟨v0, -, vs⟩ := var_cell HV20.out
    have ps := lt_of_block HK20.out
    clear f0 f1 f2 f3 f4
    obtain ⟨o21, ho21⟩ : ∃ o : Obj, o = .cells #[.slice yS My.slots.length zS, .slice yH My.heads.length zH, .slice yF My.free.length zF, .slice yL My.locks.length zL, .int .i64 My.now] 29 := ⟨_, rfl⟩
    have HA21 : Hid (At (w20.alloc o21) yS yH yF yL zS zH zF zL My) := HA20.out.below (one_below _ _)
    have HY21 : Hid ((w20.alloc o21).heap[w20.heap.size]? = some o21) := heap_alloc_new _ _
    have HX21 : Hid ((w20.alloc o21).heap[w.heap.size]? = some (.cells #[.slice (some ⟨bs, os, none⟩) M.slots.length cS, .slice aH M.heads.length cH, .slice aF M.free.length cF, .slice aL M.locks.length cL, .int .i64 M.now] 29 (0, 0))) := (Below.heap_alloc _ _ _ (lt_of_block HX20.out)).trans HX20.out
    have HK21 : Hid ((w20.alloc o21).heap[w.heap.size + 1]? = some (.cells #[.int .i64 ka, .int .i64 kb] 37 (0, 0))) := (Below.heap_alloc _ _ _ (lt_of_block HK20.out)).trans HK20.out
    have HV21 : Hid ((w20.alloc o21).heap[V]? = some (.cells #[.slice ao1 fl0.length cap1] 60 (0, 0))) := (Below.heap_alloc _ _ _ (lt_of_block HV20.out)).trans HV20.out
    have HF21 : Hid (FRow (w20.alloc o21) ao1 cap1 fl0) := HF20.out.below (one_below _ _)
    have HW21 : Hid (Below w.heap.size w (w20.alloc o21)) := HW20.out.alloc HW20.out.size _
    clear HX20 HK20 HV20 HF20 HW20
    clear HA20
    rcases withoutE_or hokc ka kb with h3 | ⟨h5, hno⟩ | ⟨h0, hkb, hkh⟩
    · have hE3 : Ey = 3 := HEy.out.trans h3
      subst hE3
      subst ho21
      go_wp2
      go_ret
      exact ⟨rfl, HW21.out⟩
    · have hE5 : Ey = 5 := HEy.out.trans h5
      subst hE5
      have HNo : Hid (hasKF fl0 ka kb = false) := by rw [HFA.out]; exact hno
      subst ho21
      go_wp2_with fail
      generalize hW : w20.alloc (.cells #[.slice yS My.slots.length zS, .slice yH My.heads.length zH, .slice yF My.free.length zF, .slice yL My.locks.length zL, .int .i64 My.now] 29) = W21 at *
      clear hW
      refine (has_any ao1 cap1 fl0 ka kb W21 (by omega) HF21.out).mono ?_
      rw [HNo.out]
      rintro e w22 ⟨rfl, b22⟩
      have HW22 : Hid (Below w.heap.size w w22) := HW21.out.trans (b22.mono HW21.out.size)
      go_wp2
      go_ret
      exact ⟨rfl, HW22.out⟩
    have hE0 : Ey = 0 := HEy.out.trans h0
    subst hE0
    obtain ⟨n, hn, hsay⟩ := cut_says hokc hkb hkh
    have hNn : Ny = (n : Int) := HNy.out.trans (by unfold withoutN; rw [h0, if_pos rfl]; exact hn)
    subst hNn
    have HCut : Hid (CutSays M My ka kb n) := by
      have : My = cutK M ka kb := HMy.out.trans (by unfold withoutM; rw [h0, if_pos rfl])
      rw [this]; exact hsay
    have hsz : (flA My).length ≤ 48 := flA_le HCut.out.okc.ok
    obtain ⟨fl1, hfl1⟩ : ∃ fl1, fl1 = flA My := ⟨_, rfl⟩
    have HL1 : Hid (flowsM My = fl1 ∧ chkC My = 0) := ⟨by rw [hfl1]; exact flowsM_ok HCut.out.okc, (chkC_zero My).2 HCut.out.okc⟩
    have hs := HCut.out
    have HN1 : Hid (fl1.length + 1 = fl0.length ∧ hasKF fl1 ka kb = false ∧ hasKF fl0 ka kb = true ∧ fl1.any (fun f => !hasF fl0 f) = false) := by
      rw [hfl1, HFA.out]; exact ⟨hs.len, hs.no, hs.yes, hs.all⟩
    rw [← hfl1] at hsz
    clear hfl1 hs hn hsay hkb hkh h0 HMy HNy HEy
    have hAy : At (w20.alloc o21) yS yH yF yL zS zH zF zL My := HA21.out
    have HAy : Hid (Ans 0 (w20.alloc o21) (.agg #[.slice yS My.slots.length zS, .slice yH My.heads.length zH, .slice yF My.free.length zF, .slice yL My.locks.length zL, .int .i64 My.now]) My) := ⟨yS, yH, yF, yL, zS, zH, zF, zL, rfl, hAy, ⟨fun _ _ => Nat.zero_le _, fun _ _ => Nat.zero_le _, fun _ _ => Nat.zero_le _, fun _ _ => Nat.zero_le _⟩⟩
    clear hAy
    go_wp2_with fail
    rw [← ho21]
    generalize w20.alloc o21 = W21 at *
    subst ho21
    clear q0 q1 q2 q3 q4 qs p0 p1 ps v0 vs
    refine (flows_at HL1.out.1 HL1.out.2 _ W21 0 HAy.out).mono ?_
    rintro e w23 ⟨ao2, cap2, rfl, hr2, b23⟩
    have HG23 : Hid (FRow w23 ao2 cap2 fl1) := hr2
    have HA23 : Hid (At w23 yS yH yF yL zS zH zF zL My) := HA21.out.below b23
    have HY23 : Hid (w23.heap[w20.heap.size]? = some (.cells #[.slice yS My.slots.length zS, .slice yH My.heads.length zH, .slice yF My.free.length zF, .slice yL My.locks.length zL, .int .i64 My.now] 29 (0, 0))) := (b23.block w20.heap.size (lt_of_block HY21.out)).trans HY21.out
    have HX23 : Hid (w23.heap[w.heap.size]? = some (.cells #[.slice (some ⟨bs, os, none⟩) M.slots.length cS, .slice aH M.heads.length cH, .slice aF M.free.length cF, .slice aL M.locks.length cL, .int .i64 M.now] 29 (0, 0))) := (b23.block (w.heap.size) (lt_of_block HX21.out)).trans HX21.out
    have HK23 : Hid (w23.heap[w.heap.size + 1]? = some (.cells #[.int .i64 ka, .int .i64 kb] 37 (0, 0))) := (b23.block (w.heap.size + 1) (lt_of_block HK21.out)).trans HK21.out
    have HV23 : Hid (w23.heap[V]? = some (.cells #[.slice ao1 fl0.length cap1] 60 (0, 0))) := (b23.block (V) (lt_of_block HV21.out)).trans HV21.out
    have HF23 : Hid (FRow w23 ao1 cap1 fl0) := HF21.out.below b23
    have HW23 : Hid (Below w.heap.size w w23) := HW21.out.trans (b23.mono HW21.out.size)
    clear HX21 HK21 HV21 HF21 HW21
    clear hr2 b23 HA21 HY21 HAy
    obtain ⟨q0, q1, q2, q3, q4, f0, f1, f2, f3, f4, qs⟩ := boxf HX23.out
    obtain ⟨p0, p1⟩ := keyf HK23.out
    obtain ⟨v0, -, vs⟩ := var_cell HV23.out
    have ps := lt_of_block HK23.out
    clear f0 f1 f2 f3 f4
    have hln : ((fl1.length : Int) != (fl0.length : Int) - 1) = false := by
      have := HN1.out.1
      rw [bne_eq_false_iff_eq]; omega
    have hl0 : 1 ≤ fl0.length := by have := HN1.out.1; omega
    go_wp2_with fail
    refine (has_any ao2 cap2 fl1 ka kb w23 (by omega) HG23.out).mono ?_
    rw [HN1.out.2.1]
    rintro e w24 ⟨rfl, b24⟩
    have HG24 : Hid (FRow w24 ao2 cap2 fl1) := HG23.out.below b24
    have HA24 : Hid (At w24 yS yH yF yL zS zH zF zL My) := HA23.out.below b24
    have HY24 : Hid (w24.heap[w20.heap.size]? = some (.cells #[.slice yS My.slots.length zS, .slice yH My.heads.length zH, .slice yF My.free.length zF, .slice yL My.locks.length zL, .int .i64 My.now] 29 (0, 0))) := (b24.block w20.heap.size (lt_of_block HY23.out)).trans HY23.out
    clear q0 q1 q2 q3 q4 qs p0 p1 ps v0 vs
    have HX24 : Hid (w24.heap[w.heap.size]? = some (.cells #[.slice (some ⟨bs, os, none⟩) M.slots.length cS, .slice aH M.heads.length cH, .slice aF M.free.length cF, .slice aL M.locks.length cL, .int .i64 M.now] 29 (0, 0))) := (b24.block (w.heap.size) (lt_of_block HX23.out)).trans HX23.out
    have HK24 : Hid (w24.heap[w.heap.size + 1]? = some (.cells #[.int .i64 ka, .int .i64 kb] 37 (0, 0))) := (b24.block (w.heap.size + 1) (lt_of_block HK23.out)).trans HK23.out
    have HV24 : Hid (w24.heap[V]? = some (.cells #[.slice ao1 fl0.length cap1] 60 (0, 0))) := (b24.block (V) (lt_of_block HV23.out)).trans HV23.out
    have HF24 : Hid (FRow w24 ao1 cap1 fl0) := HF23.out.below b24
    have HW24 : Hid (Below w.heap.size w w24) := HW23.out.trans (b24.mono HW23.out.size)
    clear HX23 HK23 HV23 HF23 HW23
    clear b24 HG23 HA23 HY23
    obtain ⟨q0, q1, q2, q3, q4, f0, f1, f2, f3, f4, qs⟩ := boxf HX24.out
    obtain ⟨p0, p1⟩ := keyf HK24.out
    obtain ⟨v0, -, vs⟩ := var_cell HV24.out
    have ps := lt_of_block HK24.out
    clear f0 f1 f2 f3 f4
    go_wp2_with fail
    refine (has_any ao1 cap1 fl0 ka kb w24 (by omega) HF24.out).mono ?_
    rw [HN1.out.2.2.1]
    rintro e w25 ⟨rfl, b25⟩
    have HG25 : Hid (FRow w25 ao2 cap2 fl1) := HG24.out.below b25
    have HA25 : Hid (At w25 yS yH yF yL zS zH zF zL My) := HA24.out.below b25
    have HY25 : Hid (w25.heap[w20.heap.size]? = some (.cells #[.slice yS My.slots.length zS, .slice yH My.heads.length zH, .slice yF My.free.length zF, .slice yL My.locks.length zL, .int .i64 My.now] 29 (0, 0))) := (b25.block w20.heap.size (lt_of_block HY24.out)).trans HY24.out
    clear q0 q1 q2 q3 q4 qs p0 p1 ps v0 vs
    have HX25 : Hid (w25.heap[w.heap.size]? = some (.cells #[.slice (some ⟨bs, os, none⟩) M.slots.length cS, .slice aH M.heads.length cH, .slice aF M.free.length cF, .slice aL M.locks.length cL, .int .i64 M.now] 29 (0, 0))) := (b25.block (w.heap.size) (lt_of_block HX24.out)).trans HX24.out
    have HK25 : Hid (w25.heap[w.heap.size + 1]? = some (.cells #[.int .i64 ka, .int .i64 kb] 37 (0, 0))) := (b25.block (w.heap.size + 1) (lt_of_block HK24.out)).trans HK24.out
    have HV25 : Hid (w25.heap[V]? = some (.cells #[.slice ao1 fl0.length cap1] 60 (0, 0))) := (b25.block (V) (lt_of_block HV24.out)).trans HV24.out
    have HF25 : Hid (FRow w25 ao1 cap1 fl0) := HF24.out.below b25
    have HW25 : Hid (Below w.heap.size w w25) := HW24.out.trans (b25.mono HW24.out.size)
    clear HX24 HK24 HV24 HF24 HW24
    clear b25 HG24 HA24 HY24
    obtain ⟨q0, q1, q2, q3, q4, f0, f1, f2, f3, f4, qs⟩ := boxf HX25.out
    obtain ⟨p0, p1⟩ := keyf HK25.out
    obtain ⟨v0, -, vs⟩ := var_cell HV25.out
    have ps := lt_of_block HK25.out
    clear f0 f1 f2 f3 f4
    go_wp2_with fail
    refine (containsFn_any 54 #[.pointer (some ⟨V, 0, none⟩)] (fun f => !hasF fl0 f) ao2 cap2 fl1 w25 (by omega) HG25.out fn54 (fun x W hW => not_in54 ao1 cap1 fl0 V x W (by omega) ((hW.block V (lt_of_block HV25.out)).trans HV25.out) (HF25.out.below hW))).mono ?_
    rw [HN1.out.2.2.2]
    rintro e w26 ⟨rfl, b26⟩
    have HA26 : Hid (Ans 0 w26 (.agg #[.slice yS My.slots.length zS, .slice yH My.heads.length zH, .slice yF My.free.length zF, .slice yL My.locks.length zL, .int .i64 My.now]) My) := ⟨yS, yH, yF, yL, zS, zH, zF, zL, rfl, HA25.out.below b26, ⟨fun _ _ => Nat.zero_le _, fun _ _ => Nat.zero_le _, fun _ _ => Nat.zero_le _, fun _ _ => Nat.zero_le _⟩⟩
    have HY26 : Hid (w26.heap[w20.heap.size]? = some (.cells #[.slice yS My.slots.length zS, .slice yH My.heads.length zH, .slice yF My.free.length zF, .slice yL My.locks.length zL, .int .i64 My.now] 29 (0, 0))) := (b26.block w20.heap.size (lt_of_block HY25.out)).trans HY25.out
    clear q0 q1 q2 q3 q4 qs p0 p1 ps v0 vs
    have HX26 : Hid (w26.heap[w.heap.size]? = some (.cells #[.slice (some ⟨bs, os, none⟩) M.slots.length cS, .slice aH M.heads.length cH, .slice aF M.free.length cF, .slice aL M.locks.length cL, .int .i64 M.now] 29 (0, 0))) := (b26.block (w.heap.size) (lt_of_block HX25.out)).trans HX25.out
    have HK26 : Hid (w26.heap[w.heap.size + 1]? = some (.cells #[.int .i64 ka, .int .i64 kb] 37 (0, 0))) := (b26.block (w.heap.size + 1) (lt_of_block HK25.out)).trans HK25.out
    have HV26 : Hid (w26.heap[V]? = some (.cells #[.slice ao1 fl0.length cap1] 60 (0, 0))) := (b26.block (V) (lt_of_block HV25.out)).trans HV25.out
    have HF26 : Hid (FRow w26 ao1 cap1 fl0) := HF25.out.below b26
    have HW26 : Hid (Below w.heap.size w w26) := HW25.out.trans (b26.mono HW25.out.size)
    clear HX25 HK25 HV25 HF25 HW25
    clear b26 HG25 HA25 HY25
    obtain ⟨q0, q1, q2, q3, q4, f0, f1, f2, f3, f4, qs⟩ := boxf HY26.out
    clear f0 f1 f2 f3 f4
    obtain ⟨Mz, hMz⟩ : ∃ Mz, Mz = linkedM My n := ⟨_, rfl⟩
    have HMz : Hid (Mz = linkedM My n) := hMz
    obtain ⟨fl2, hfl2⟩ : ∃ fl2, fl2 = flA Mz := ⟨_, rfl⟩
    have hsz2 : fl2.length ≤ 48 := by rw [hfl2, hMz]; exact flA_le HCut.out.zok.ok
    have HL2 : Hid (flowsM Mz = fl2 ∧ chkC Mz = 0) := ⟨by rw [hfl2, hMz]; exact flowsM_ok HCut.out.zok, by rw [hMz]; exact (chkC_zero _).2 HCut.out.zok⟩
    have hln2 : fl2.length = fl0.length := by rw [hfl2, hMz, HFA.out]; exact HCut.out.zlen
    have HN2 : Hid (fl0.any (fun f => !hasF fl2 f) = false) := by rw [hfl2, hMz, HFA.out]; exact HCut.out.zall
    have hli2 : ((fl2.length : Int) == (fl0.length : Int)) = true := by rw [hln2]; simp
    have HLE : Hid (linkE My n = 0) := HCut.out.lnk
    clear hfl2 hMz hln2 HCut
    go_wp2_with fail
    refine (linked_at HMz.out.symm HLE.out _ w26 0 HA26.out).mono ?_
    rintro e w27 ⟨v27, rfl, ⟨rS, rH, rF, rL, tS, tH, tF, tL, rfl, A27, hi27⟩, b27⟩
    clear q0 q1 q2 q3 q4 qs HY26 HA26 hi27
    have HA27 : Hid (Ans 0 (w27.alloc (.cells #[.slice rS Mz.slots.length tS, .slice rH Mz.heads.length tH, .slice rF Mz.free.length tF, .slice rL Mz.locks.length tL, .int .i64 Mz.now] 29)) (.agg #[.slice rS Mz.slots.length tS, .slice rH Mz.heads.length tH, .slice rF Mz.free.length tF, .slice rL Mz.locks.length tL, .int .i64 Mz.now]) Mz) := ⟨rS, rH, rF, rL, tS, tH, tF, tL, rfl, A27.below (one_below _ _), ⟨fun _ _ => Nat.zero_le _, fun _ _ => Nat.zero_le _, fun _ _ => Nat.zero_le _, fun _ _ => Nat.zero_le _⟩⟩
    have HX27 : Hid (w27.heap[w.heap.size]? = some (.cells #[.slice (some ⟨bs, os, none⟩) M.slots.length cS, .slice aH M.heads.length cH, .slice aF M.free.length cF, .slice aL M.locks.length cL, .int .i64 M.now] 29 (0, 0))) := (b27.block (w.heap.size) (lt_of_block HX26.out)).trans HX26.out
    have HK27 : Hid (w27.heap[w.heap.size + 1]? = some (.cells #[.int .i64 ka, .int .i64 kb] 37 (0, 0))) := (b27.block (w.heap.size + 1) (lt_of_block HK26.out)).trans HK26.out
    have HV27 : Hid (w27.heap[V]? = some (.cells #[.slice ao1 fl0.length cap1] 60 (0, 0))) := (b27.block (V) (lt_of_block HV26.out)).trans HV26.out
    have HF27 : Hid (FRow w27 ao1 cap1 fl0) := HF26.out.below b27
    have HW27 : Hid (Below w.heap.size w w27) := HW26.out.trans (b27.mono HW26.out.size)
    clear HX26 HK26 HV26 HF26 HW26
    clear A27 b27
    have HX28 : Hid ((w27.alloc (.cells #[.slice rS Mz.slots.length tS, .slice rH Mz.heads.length tH, .slice rF Mz.free.length tF, .slice rL Mz.locks.length tL, .int .i64 Mz.now] 29)).heap[w.heap.size]? = some (.cells #[.slice (some ⟨bs, os, none⟩) M.slots.length cS, .slice aH M.heads.length cH, .slice aF M.free.length cF, .slice aL M.locks.length cL, .int .i64 M.now] 29 (0, 0))) := (Below.heap_alloc _ _ _ (lt_of_block HX27.out)).trans HX27.out
    have HK28 : Hid ((w27.alloc (.cells #[.slice rS Mz.slots.length tS, .slice rH Mz.heads.length tH, .slice rF Mz.free.length tF, .slice rL Mz.locks.length tL, .int .i64 Mz.now] 29)).heap[w.heap.size + 1]? = some (.cells #[.int .i64 ka, .int .i64 kb] 37 (0, 0))) := (Below.heap_alloc _ _ _ (lt_of_block HK27.out)).trans HK27.out
    have HV28 : Hid ((w27.alloc (.cells #[.slice rS Mz.slots.length tS, .slice rH Mz.heads.length tH, .slice rF Mz.free.length tF, .slice rL Mz.locks.length tL, .int .i64 Mz.now] 29)).heap[V]? = some (.cells #[.slice ao1 fl0.length cap1] 60 (0, 0))) := (Below.heap_alloc _ _ _ (lt_of_block HV27.out)).trans HV27.out
    have HF28 : Hid (FRow (w27.alloc (.cells #[.slice rS Mz.slots.length tS, .slice rH Mz.heads.length tH, .slice rF Mz.free.length tF, .slice rL Mz.locks.length tL, .int .i64 Mz.now] 29)) ao1 cap1 fl0) := HF27.out.below (one_below _ _)
    have HW28 : Hid (Below w.heap.size w (w27.alloc (.cells #[.slice rS Mz.slots.length tS, .slice rH Mz.heads.length tH, .slice rF Mz.free.length tF, .slice rL Mz.locks.length tL, .int .i64 Mz.now] 29))) := HW27.out.alloc HW27.out.size _
    clear HX27 HK27 HV27 HF27 HW27
    go_wp2_with fail
    generalize hW28 : w27.alloc (.cells #[.slice rS Mz.slots.length tS, .slice rH Mz.heads.length tH, .slice rF Mz.free.length tF, .slice rL Mz.locks.length tL, .int .i64 Mz.now] 29) = W28 at *
    clear hW28
    refine (flows_at HL2.out.1 HL2.out.2 _ W28 0 HA27.out).mono ?_
    rintro e w29 ⟨ao3, cap3, rfl, hr3, b29⟩
    have HX29 : Hid (w29.heap[w.heap.size]? = some (.cells #[.slice (some ⟨bs, os, none⟩) M.slots.length cS, .slice aH M.heads.length cH, .slice aF M.free.length cF, .slice aL M.locks.length cL, .int .i64 M.now] 29 (0, 0))) := (b29.block (w.heap.size) (lt_of_block HX28.out)).trans HX28.out
    have HK29 : Hid (w29.heap[w.heap.size + 1]? = some (.cells #[.int .i64 ka, .int .i64 kb] 37 (0, 0))) := (b29.block (w.heap.size + 1) (lt_of_block HK28.out)).trans HK28.out
    have HV29 : Hid (w29.heap[V]? = some (.cells #[.slice ao1 fl0.length cap1] 60 (0, 0))) := (b29.block (V) (lt_of_block HV28.out)).trans HV28.out
    have HF29 : Hid (FRow w29 ao1 cap1 fl0) := HF28.out.below b29
    have HW29 : Hid (Below w.heap.size w w29) := HW28.out.trans (b29.mono HW28.out.size)
    clear HX28 HK28 HV28 HF28 HW28
    have HG30 : Hid (FRow (w29.alloc (.cells #[.slice ao3 fl2.length cap3] 60)) ao3 cap3 fl2) := hr3.below (one_below _ _)
    have HV30 : Hid ((w29.alloc (.cells #[.slice ao3 fl2.length cap3] 60)).heap[w29.heap.size]? = some (.cells #[.slice ao3 fl2.length cap3] 60)) := heap_alloc_new _ _
    clear hr3 b29 HA27
    obtain ⟨q0, q1, q2, q3, q4, f0, f1, f2, f3, f4, qs⟩ := boxf HX29.out
    obtain ⟨p0, p1⟩ := keyf HK29.out
    obtain ⟨v0, -, vs⟩ := var_cell HV29.out
    have ps := lt_of_block HK29.out
    clear f0 f1 f2 f3 f4
    have HX31 : Hid ((w29.alloc (.cells #[.slice ao3 fl2.length cap3] 60)).heap[w.heap.size]? = some (.cells #[.slice (some ⟨bs, os, none⟩) M.slots.length cS, .slice aH M.heads.length cH, .slice aF M.free.length cF, .slice aL M.locks.length cL, .int .i64 M.now] 29 (0, 0))) := (Below.heap_alloc _ _ _ (lt_of_block HX29.out)).trans HX29.out
    have HK31 : Hid ((w29.alloc (.cells #[.slice ao3 fl2.length cap3] 60)).heap[w.heap.size + 1]? = some (.cells #[.int .i64 ka, .int .i64 kb] 37 (0, 0))) := (Below.heap_alloc _ _ _ (lt_of_block HK29.out)).trans HK29.out
    have HV31 : Hid ((w29.alloc (.cells #[.slice ao3 fl2.length cap3] 60)).heap[V]? = some (.cells #[.slice ao1 fl0.length cap1] 60 (0, 0))) := (Below.heap_alloc _ _ _ (lt_of_block HV29.out)).trans HV29.out
    have HF31 : Hid (FRow (w29.alloc (.cells #[.slice ao3 fl2.length cap3] 60)) ao1 cap1 fl0) := HF29.out.below (one_below _ _)
    have HW31 : Hid (Below w.heap.size w (w29.alloc (.cells #[.slice ao3 fl2.length cap3] 60))) := HW29.out.alloc HW29.out.size _
    clear HX29 HK29 HV29 HF29 HW29
    go_wp2_with fail
    generalize hW31 : w29.alloc (.cells #[.slice ao3 fl2.length cap3] 60) = W31 at *
    clear hW31
    refine (containsFn_any 55 #[.pointer (some ⟨w29.heap.size, 0, none⟩)] (fun f => !hasF fl2 f) ao1 cap1 fl0 W31 (by omega) HF31.out fn55 (fun x W hW => not_in55 ao3 cap3 fl2 w29.heap.size x W (by omega) ((hW.block w29.heap.size (lt_of_block HV30.out)).trans HV30.out) (HG30.out.below hW))).mono ?_
    rw [HN2.out]
    rintro e w32 ⟨rfl, b32⟩
    have HW32 : Hid (Below w.heap.size w w32) := HW31.out.trans (b32.mono HW31.out.size)
    clear b32
    go_wp2
    go_ret
    exact ⟨rfl, HW32.out⟩

  · have hE1 : (Ex == 0) = false := by simpa using hE
    obtain ⟨o5, ho5⟩ : ∃ o : Obj, o = .cells #[.slice xS Mx.slots.length dS, .slice xH Mx.heads.length dH, .slice xF Mx.free.length dF, .slice xL Mx.locks.length dL, .int .i64 Mx.now] 29 := ⟨_, rfl⟩
    obtain ⟨q0, q1, q2, q3, q4, f0, f1, f2, f3, f4, qs⟩ := boxf HX4.out
    obtain ⟨p0, p1⟩ := keyf HK4.out
    obtain ⟨v0, -, vs⟩ := var_cell HV4.out
    have ps := lt_of_block HK4.out
    clear f0 f1 f2 f3 f4
    have HX5 : Hid ((w4.alloc o5).heap[w.heap.size]? = some (.cells #[.slice aS M.slots.length cS, .slice aH M.heads.length cH, .slice aF M.free.length cF, .slice aL M.locks.length cL, .int .i64 M.now] 29 (0, 0))) := (Below.heap_alloc _ _ _ (lt_of_block HX4.out)).trans HX4.out
    have HK5 : Hid ((w4.alloc o5).heap[w.heap.size + 1]? = some (.cells #[.int .i64 ka, .int .i64 kb] 37 (0, 0))) := (Below.heap_alloc _ _ _ (lt_of_block HK4.out)).trans HK4.out
    have HV5 : Hid ((w4.alloc o5).heap[V]? = some (.cells #[.slice ao1 fl0.length cap1] 60 (0, 0))) := (Below.heap_alloc _ _ _ (lt_of_block HV4.out)).trans HV4.out
    have HF5 : Hid (FRow (w4.alloc o5) ao1 cap1 fl0) := HF4.out.below (one_below _ _)
    have HW5 : Hid (Below w.heap.size w (w4.alloc o5)) := HW4.out.alloc HW4.out.size _
    clear HX4 HK4 HV4 HF4 HW4
    clear HA4
    obtain ⟨My, hMy⟩ : ∃ My, My = withoutM M ka kb := ⟨_, rfl⟩
    obtain ⟨Ny, hNy⟩ : ∃ Ny, Ny = withoutN M ka kb := ⟨_, rfl⟩
    obtain ⟨Ey, hEy⟩ : ∃ Ey, Ey = withoutE M ka kb := ⟨_, rfl⟩
    have HMy : Hid (My = withoutM M ka kb) := hMy
    have HNy : Hid (Ny = withoutN M ka kb) := hNy
    have HEy : Hid (Ey = withoutE M ka kb) := hEy
    clear hMy hNy hEy
    go_wp2_with fail
    rw [← ho5]
    generalize w4.alloc o5 = W5 at *
    clear ho5
    have HAn : Hid (Ans 0 W5 (.agg #[.slice aS M.slots.length cS, .slice aH M.heads.length cH, .slice aF M.free.length cF, .slice aL M.locks.length cL, .int .i64 M.now]) M) := ⟨aS, aH, aF, aL, cS, cH, cF, cL, rfl, HAt.out.below HW5.out, ⟨fun _ _ => Nat.zero_le _, fun _ _ => Nat.zero_le _, fun _ _ => Nat.zero_le _, fun _ _ => Nat.zero_le _⟩⟩
    refine (without_at HMy.out.symm HNy.out.symm HEy.out.symm _ W5 0 HAn.out).mono ?_
    rintro e w20 ⟨v20, rfl, ⟨yS, yH, yF, yL, zS, zH, zF, zL, rfl, A20, hi20⟩, b20⟩
    have HA20 : Hid (At w20 yS yH yF yL zS zH zF zL My) := A20
    clear q0 q1 q2 q3 q4 qs p0 p1 ps v0 vs
    have HX20 : Hid (w20.heap[w.heap.size]? = some (.cells #[.slice aS M.slots.length cS, .slice aH M.heads.length cH, .slice aF M.free.length cF, .slice aL M.locks.length cL, .int .i64 M.now] 29 (0, 0))) := (b20.block (w.heap.size) (lt_of_block HX5.out)).trans HX5.out
    have HK20 : Hid (w20.heap[w.heap.size + 1]? = some (.cells #[.int .i64 ka, .int .i64 kb] 37 (0, 0))) := (b20.block (w.heap.size + 1) (lt_of_block HK5.out)).trans HK5.out
    have HV20 : Hid (w20.heap[V]? = some (.cells #[.slice ao1 fl0.length cap1] 60 (0, 0))) := (b20.block (V) (lt_of_block HV5.out)).trans HV5.out
    have HF20 : Hid (FRow w20 ao1 cap1 fl0) := HF5.out.below b20
    have HW20 : Hid (Below w.heap.size w w20) := HW5.out.trans (b20.mono HW5.out.size)
    clear HX5 HK5 HV5 HF5 HW5
    clear A20 hi20 b20 HAn
    obtain ⟨q0, q1, q2, q3, q4, f0, f1, f2, f3, f4, qs⟩ := boxf HX20.out
    obtain ⟨p0, p1⟩ := keyf HK20.out
    obtain ⟨v0, -, vs⟩ := var_cell HV20.out
    have ps := lt_of_block HK20.out
    clear f0 f1 f2 f3 f4
    obtain ⟨o21, ho21⟩ : ∃ o : Obj, o = .cells #[.slice yS My.slots.length zS, .slice yH My.heads.length zH, .slice yF My.free.length zF, .slice yL My.locks.length zL, .int .i64 My.now] 29 := ⟨_, rfl⟩
    have HA21 : Hid (At (w20.alloc o21) yS yH yF yL zS zH zF zL My) := HA20.out.below (one_below _ _)
    have HY21 : Hid ((w20.alloc o21).heap[w20.heap.size]? = some o21) := heap_alloc_new _ _
    have HX21 : Hid ((w20.alloc o21).heap[w.heap.size]? = some (.cells #[.slice aS M.slots.length cS, .slice aH M.heads.length cH, .slice aF M.free.length cF, .slice aL M.locks.length cL, .int .i64 M.now] 29 (0, 0))) := (Below.heap_alloc _ _ _ (lt_of_block HX20.out)).trans HX20.out
    have HK21 : Hid ((w20.alloc o21).heap[w.heap.size + 1]? = some (.cells #[.int .i64 ka, .int .i64 kb] 37 (0, 0))) := (Below.heap_alloc _ _ _ (lt_of_block HK20.out)).trans HK20.out
    have HV21 : Hid ((w20.alloc o21).heap[V]? = some (.cells #[.slice ao1 fl0.length cap1] 60 (0, 0))) := (Below.heap_alloc _ _ _ (lt_of_block HV20.out)).trans HV20.out
    have HF21 : Hid (FRow (w20.alloc o21) ao1 cap1 fl0) := HF20.out.below (one_below _ _)
    have HW21 : Hid (Below w.heap.size w (w20.alloc o21)) := HW20.out.alloc HW20.out.size _
    clear HX20 HK20 HV20 HF20 HW20
    clear HA20
    rcases withoutE_or hokc ka kb with h3 | ⟨h5, hno⟩ | ⟨h0, hkb, hkh⟩
    · have hE3 : Ey = 3 := HEy.out.trans h3
      subst hE3
      subst ho21
      go_wp2
      go_ret
      exact ⟨rfl, HW21.out⟩
    · have hE5 : Ey = 5 := HEy.out.trans h5
      subst hE5
      have HNo : Hid (hasKF fl0 ka kb = false) := by rw [HFA.out]; exact hno
      subst ho21
      go_wp2_with fail
      generalize hW : w20.alloc (.cells #[.slice yS My.slots.length zS, .slice yH My.heads.length zH, .slice yF My.free.length zF, .slice yL My.locks.length zL, .int .i64 My.now] 29) = W21 at *
      clear hW
      refine (has_any ao1 cap1 fl0 ka kb W21 (by omega) HF21.out).mono ?_
      rw [HNo.out]
      rintro e w22 ⟨rfl, b22⟩
      have HW22 : Hid (Below w.heap.size w w22) := HW21.out.trans (b22.mono HW21.out.size)
      go_wp2
      go_ret
      exact ⟨rfl, HW22.out⟩
    have hE0 : Ey = 0 := HEy.out.trans h0
    subst hE0
    obtain ⟨n, hn, hsay⟩ := cut_says hokc hkb hkh
    have hNn : Ny = (n : Int) := HNy.out.trans (by unfold withoutN; rw [h0, if_pos rfl]; exact hn)
    subst hNn
    have HCut : Hid (CutSays M My ka kb n) := by
      have : My = cutK M ka kb := HMy.out.trans (by unfold withoutM; rw [h0, if_pos rfl])
      rw [this]; exact hsay
    have hsz : (flA My).length ≤ 48 := flA_le HCut.out.okc.ok
    obtain ⟨fl1, hfl1⟩ : ∃ fl1, fl1 = flA My := ⟨_, rfl⟩
    have HL1 : Hid (flowsM My = fl1 ∧ chkC My = 0) := ⟨by rw [hfl1]; exact flowsM_ok HCut.out.okc, (chkC_zero My).2 HCut.out.okc⟩
    have hs := HCut.out
    have HN1 : Hid (fl1.length + 1 = fl0.length ∧ hasKF fl1 ka kb = false ∧ hasKF fl0 ka kb = true ∧ fl1.any (fun f => !hasF fl0 f) = false) := by
      rw [hfl1, HFA.out]; exact ⟨hs.len, hs.no, hs.yes, hs.all⟩
    rw [← hfl1] at hsz
    clear hfl1 hs hn hsay hkb hkh h0 HMy HNy HEy
    have hAy : At (w20.alloc o21) yS yH yF yL zS zH zF zL My := HA21.out
    have HAy : Hid (Ans 0 (w20.alloc o21) (.agg #[.slice yS My.slots.length zS, .slice yH My.heads.length zH, .slice yF My.free.length zF, .slice yL My.locks.length zL, .int .i64 My.now]) My) := ⟨yS, yH, yF, yL, zS, zH, zF, zL, rfl, hAy, ⟨fun _ _ => Nat.zero_le _, fun _ _ => Nat.zero_le _, fun _ _ => Nat.zero_le _, fun _ _ => Nat.zero_le _⟩⟩
    clear hAy
    go_wp2_with fail
    rw [← ho21]
    generalize w20.alloc o21 = W21 at *
    subst ho21
    clear q0 q1 q2 q3 q4 qs p0 p1 ps v0 vs
    refine (flows_at HL1.out.1 HL1.out.2 _ W21 0 HAy.out).mono ?_
    rintro e w23 ⟨ao2, cap2, rfl, hr2, b23⟩
    have HG23 : Hid (FRow w23 ao2 cap2 fl1) := hr2
    have HA23 : Hid (At w23 yS yH yF yL zS zH zF zL My) := HA21.out.below b23
    have HY23 : Hid (w23.heap[w20.heap.size]? = some (.cells #[.slice yS My.slots.length zS, .slice yH My.heads.length zH, .slice yF My.free.length zF, .slice yL My.locks.length zL, .int .i64 My.now] 29 (0, 0))) := (b23.block w20.heap.size (lt_of_block HY21.out)).trans HY21.out
    have HX23 : Hid (w23.heap[w.heap.size]? = some (.cells #[.slice aS M.slots.length cS, .slice aH M.heads.length cH, .slice aF M.free.length cF, .slice aL M.locks.length cL, .int .i64 M.now] 29 (0, 0))) := (b23.block (w.heap.size) (lt_of_block HX21.out)).trans HX21.out
    have HK23 : Hid (w23.heap[w.heap.size + 1]? = some (.cells #[.int .i64 ka, .int .i64 kb] 37 (0, 0))) := (b23.block (w.heap.size + 1) (lt_of_block HK21.out)).trans HK21.out
    have HV23 : Hid (w23.heap[V]? = some (.cells #[.slice ao1 fl0.length cap1] 60 (0, 0))) := (b23.block (V) (lt_of_block HV21.out)).trans HV21.out
    have HF23 : Hid (FRow w23 ao1 cap1 fl0) := HF21.out.below b23
    have HW23 : Hid (Below w.heap.size w w23) := HW21.out.trans (b23.mono HW21.out.size)
    clear HX21 HK21 HV21 HF21 HW21
    clear hr2 b23 HA21 HY21 HAy
    obtain ⟨q0, q1, q2, q3, q4, f0, f1, f2, f3, f4, qs⟩ := boxf HX23.out
    obtain ⟨p0, p1⟩ := keyf HK23.out
    obtain ⟨v0, -, vs⟩ := var_cell HV23.out
    have ps := lt_of_block HK23.out
    clear f0 f1 f2 f3 f4
    have hln : ((fl1.length : Int) != (fl0.length : Int) - 1) = false := by
      have := HN1.out.1
      rw [bne_eq_false_iff_eq]; omega
    have hl0 : 1 ≤ fl0.length := by have := HN1.out.1; omega
    go_wp2_with fail
    refine (has_any ao2 cap2 fl1 ka kb w23 (by omega) HG23.out).mono ?_
    rw [HN1.out.2.1]
    rintro e w24 ⟨rfl, b24⟩
    have HG24 : Hid (FRow w24 ao2 cap2 fl1) := HG23.out.below b24
    have HA24 : Hid (At w24 yS yH yF yL zS zH zF zL My) := HA23.out.below b24
    have HY24 : Hid (w24.heap[w20.heap.size]? = some (.cells #[.slice yS My.slots.length zS, .slice yH My.heads.length zH, .slice yF My.free.length zF, .slice yL My.locks.length zL, .int .i64 My.now] 29 (0, 0))) := (b24.block w20.heap.size (lt_of_block HY23.out)).trans HY23.out
    clear q0 q1 q2 q3 q4 qs p0 p1 ps v0 vs
    have HX24 : Hid (w24.heap[w.heap.size]? = some (.cells #[.slice aS M.slots.length cS, .slice aH M.heads.length cH, .slice aF M.free.length cF, .slice aL M.locks.length cL, .int .i64 M.now] 29 (0, 0))) := (b24.block (w.heap.size) (lt_of_block HX23.out)).trans HX23.out
    have HK24 : Hid (w24.heap[w.heap.size + 1]? = some (.cells #[.int .i64 ka, .int .i64 kb] 37 (0, 0))) := (b24.block (w.heap.size + 1) (lt_of_block HK23.out)).trans HK23.out
    have HV24 : Hid (w24.heap[V]? = some (.cells #[.slice ao1 fl0.length cap1] 60 (0, 0))) := (b24.block (V) (lt_of_block HV23.out)).trans HV23.out
    have HF24 : Hid (FRow w24 ao1 cap1 fl0) := HF23.out.below b24
    have HW24 : Hid (Below w.heap.size w w24) := HW23.out.trans (b24.mono HW23.out.size)
    clear HX23 HK23 HV23 HF23 HW23
    clear b24 HG23 HA23 HY23
    obtain ⟨q0, q1, q2, q3, q4, f0, f1, f2, f3, f4, qs⟩ := boxf HX24.out
    obtain ⟨p0, p1⟩ := keyf HK24.out
    obtain ⟨v0, -, vs⟩ := var_cell HV24.out
    have ps := lt_of_block HK24.out
    clear f0 f1 f2 f3 f4
    go_wp2_with fail
    refine (has_any ao1 cap1 fl0 ka kb w24 (by omega) HF24.out).mono ?_
    rw [HN1.out.2.2.1]
    rintro e w25 ⟨rfl, b25⟩
    have HG25 : Hid (FRow w25 ao2 cap2 fl1) := HG24.out.below b25
    have HA25 : Hid (At w25 yS yH yF yL zS zH zF zL My) := HA24.out.below b25
    have HY25 : Hid (w25.heap[w20.heap.size]? = some (.cells #[.slice yS My.slots.length zS, .slice yH My.heads.length zH, .slice yF My.free.length zF, .slice yL My.locks.length zL, .int .i64 My.now] 29 (0, 0))) := (b25.block w20.heap.size (lt_of_block HY24.out)).trans HY24.out
    clear q0 q1 q2 q3 q4 qs p0 p1 ps v0 vs
    have HX25 : Hid (w25.heap[w.heap.size]? = some (.cells #[.slice aS M.slots.length cS, .slice aH M.heads.length cH, .slice aF M.free.length cF, .slice aL M.locks.length cL, .int .i64 M.now] 29 (0, 0))) := (b25.block (w.heap.size) (lt_of_block HX24.out)).trans HX24.out
    have HK25 : Hid (w25.heap[w.heap.size + 1]? = some (.cells #[.int .i64 ka, .int .i64 kb] 37 (0, 0))) := (b25.block (w.heap.size + 1) (lt_of_block HK24.out)).trans HK24.out
    have HV25 : Hid (w25.heap[V]? = some (.cells #[.slice ao1 fl0.length cap1] 60 (0, 0))) := (b25.block (V) (lt_of_block HV24.out)).trans HV24.out
    have HF25 : Hid (FRow w25 ao1 cap1 fl0) := HF24.out.below b25
    have HW25 : Hid (Below w.heap.size w w25) := HW24.out.trans (b25.mono HW24.out.size)
    clear HX24 HK24 HV24 HF24 HW24
    clear b25 HG24 HA24 HY24
    obtain ⟨q0, q1, q2, q3, q4, f0, f1, f2, f3, f4, qs⟩ := boxf HX25.out
    obtain ⟨p0, p1⟩ := keyf HK25.out
    obtain ⟨v0, -, vs⟩ := var_cell HV25.out
    have ps := lt_of_block HK25.out
    clear f0 f1 f2 f3 f4
    go_wp2_with fail
    refine (containsFn_any 54 #[.pointer (some ⟨V, 0, none⟩)] (fun f => !hasF fl0 f) ao2 cap2 fl1 w25 (by omega) HG25.out fn54 (fun x W hW => not_in54 ao1 cap1 fl0 V x W (by omega) ((hW.block V (lt_of_block HV25.out)).trans HV25.out) (HF25.out.below hW))).mono ?_
    rw [HN1.out.2.2.2]
    rintro e w26 ⟨rfl, b26⟩
    have HA26 : Hid (Ans 0 w26 (.agg #[.slice yS My.slots.length zS, .slice yH My.heads.length zH, .slice yF My.free.length zF, .slice yL My.locks.length zL, .int .i64 My.now]) My) := ⟨yS, yH, yF, yL, zS, zH, zF, zL, rfl, HA25.out.below b26, ⟨fun _ _ => Nat.zero_le _, fun _ _ => Nat.zero_le _, fun _ _ => Nat.zero_le _, fun _ _ => Nat.zero_le _⟩⟩
    have HY26 : Hid (w26.heap[w20.heap.size]? = some (.cells #[.slice yS My.slots.length zS, .slice yH My.heads.length zH, .slice yF My.free.length zF, .slice yL My.locks.length zL, .int .i64 My.now] 29 (0, 0))) := (b26.block w20.heap.size (lt_of_block HY25.out)).trans HY25.out
    clear q0 q1 q2 q3 q4 qs p0 p1 ps v0 vs
    have HX26 : Hid (w26.heap[w.heap.size]? = some (.cells #[.slice aS M.slots.length cS, .slice aH M.heads.length cH, .slice aF M.free.length cF, .slice aL M.locks.length cL, .int .i64 M.now] 29 (0, 0))) := (b26.block (w.heap.size) (lt_of_block HX25.out)).trans HX25.out
    have HK26 : Hid (w26.heap[w.heap.size + 1]? = some (.cells #[.int .i64 ka, .int .i64 kb] 37 (0, 0))) := (b26.block (w.heap.size + 1) (lt_of_block HK25.out)).trans HK25.out
    have HV26 : Hid (w26.heap[V]? = some (.cells #[.slice ao1 fl0.length cap1] 60 (0, 0))) := (b26.block (V) (lt_of_block HV25.out)).trans HV25.out
    have HF26 : Hid (FRow w26 ao1 cap1 fl0) := HF25.out.below b26
    have HW26 : Hid (Below w.heap.size w w26) := HW25.out.trans (b26.mono HW25.out.size)
    clear HX25 HK25 HV25 HF25 HW25
    clear b26 HG25 HA25 HY25
    obtain ⟨q0, q1, q2, q3, q4, f0, f1, f2, f3, f4, qs⟩ := boxf HY26.out
    clear f0 f1 f2 f3 f4
    obtain ⟨Mz, hMz⟩ : ∃ Mz, Mz = linkedM My n := ⟨_, rfl⟩
    have HMz : Hid (Mz = linkedM My n) := hMz
    obtain ⟨fl2, hfl2⟩ : ∃ fl2, fl2 = flA Mz := ⟨_, rfl⟩
    have hsz2 : fl2.length ≤ 48 := by rw [hfl2, hMz]; exact flA_le HCut.out.zok.ok
    have HL2 : Hid (flowsM Mz = fl2 ∧ chkC Mz = 0) := ⟨by rw [hfl2, hMz]; exact flowsM_ok HCut.out.zok, by rw [hMz]; exact (chkC_zero _).2 HCut.out.zok⟩
    have hln2 : fl2.length = fl0.length := by rw [hfl2, hMz, HFA.out]; exact HCut.out.zlen
    have HN2 : Hid (fl0.any (fun f => !hasF fl2 f) = false) := by rw [hfl2, hMz, HFA.out]; exact HCut.out.zall
    have hli2 : ((fl2.length : Int) == (fl0.length : Int)) = true := by rw [hln2]; simp
    have HLE : Hid (linkE My n = 0) := HCut.out.lnk
    clear hfl2 hMz hln2 HCut
    go_wp2_with fail
    refine (linked_at HMz.out.symm HLE.out _ w26 0 HA26.out).mono ?_
    rintro e w27 ⟨v27, rfl, ⟨rS, rH, rF, rL, tS, tH, tF, tL, rfl, A27, hi27⟩, b27⟩
    clear q0 q1 q2 q3 q4 qs HY26 HA26 hi27
    have HA27 : Hid (Ans 0 (w27.alloc (.cells #[.slice rS Mz.slots.length tS, .slice rH Mz.heads.length tH, .slice rF Mz.free.length tF, .slice rL Mz.locks.length tL, .int .i64 Mz.now] 29)) (.agg #[.slice rS Mz.slots.length tS, .slice rH Mz.heads.length tH, .slice rF Mz.free.length tF, .slice rL Mz.locks.length tL, .int .i64 Mz.now]) Mz) := ⟨rS, rH, rF, rL, tS, tH, tF, tL, rfl, A27.below (one_below _ _), ⟨fun _ _ => Nat.zero_le _, fun _ _ => Nat.zero_le _, fun _ _ => Nat.zero_le _, fun _ _ => Nat.zero_le _⟩⟩
    have HX27 : Hid (w27.heap[w.heap.size]? = some (.cells #[.slice aS M.slots.length cS, .slice aH M.heads.length cH, .slice aF M.free.length cF, .slice aL M.locks.length cL, .int .i64 M.now] 29 (0, 0))) := (b27.block (w.heap.size) (lt_of_block HX26.out)).trans HX26.out
    have HK27 : Hid (w27.heap[w.heap.size + 1]? = some (.cells #[.int .i64 ka, .int .i64 kb] 37 (0, 0))) := (b27.block (w.heap.size + 1) (lt_of_block HK26.out)).trans HK26.out
    have HV27 : Hid (w27.heap[V]? = some (.cells #[.slice ao1 fl0.length cap1] 60 (0, 0))) := (b27.block (V) (lt_of_block HV26.out)).trans HV26.out
    have HF27 : Hid (FRow w27 ao1 cap1 fl0) := HF26.out.below b27
    have HW27 : Hid (Below w.heap.size w w27) := HW26.out.trans (b27.mono HW26.out.size)
    clear HX26 HK26 HV26 HF26 HW26
    clear A27 b27
    have HX28 : Hid ((w27.alloc (.cells #[.slice rS Mz.slots.length tS, .slice rH Mz.heads.length tH, .slice rF Mz.free.length tF, .slice rL Mz.locks.length tL, .int .i64 Mz.now] 29)).heap[w.heap.size]? = some (.cells #[.slice aS M.slots.length cS, .slice aH M.heads.length cH, .slice aF M.free.length cF, .slice aL M.locks.length cL, .int .i64 M.now] 29 (0, 0))) := (Below.heap_alloc _ _ _ (lt_of_block HX27.out)).trans HX27.out
    have HK28 : Hid ((w27.alloc (.cells #[.slice rS Mz.slots.length tS, .slice rH Mz.heads.length tH, .slice rF Mz.free.length tF, .slice rL Mz.locks.length tL, .int .i64 Mz.now] 29)).heap[w.heap.size + 1]? = some (.cells #[.int .i64 ka, .int .i64 kb] 37 (0, 0))) := (Below.heap_alloc _ _ _ (lt_of_block HK27.out)).trans HK27.out
    have HV28 : Hid ((w27.alloc (.cells #[.slice rS Mz.slots.length tS, .slice rH Mz.heads.length tH, .slice rF Mz.free.length tF, .slice rL Mz.locks.length tL, .int .i64 Mz.now] 29)).heap[V]? = some (.cells #[.slice ao1 fl0.length cap1] 60 (0, 0))) := (Below.heap_alloc _ _ _ (lt_of_block HV27.out)).trans HV27.out
    have HF28 : Hid (FRow (w27.alloc (.cells #[.slice rS Mz.slots.length tS, .slice rH Mz.heads.length tH, .slice rF Mz.free.length tF, .slice rL Mz.locks.length tL, .int .i64 Mz.now] 29)) ao1 cap1 fl0) := HF27.out.below (one_below _ _)
    have HW28 : Hid (Below w.heap.size w (w27.alloc (.cells #[.slice rS Mz.slots.length tS, .slice rH Mz.heads.length tH, .slice rF Mz.free.length tF, .slice rL Mz.locks.length tL, .int .i64 Mz.now] 29))) := HW27.out.alloc HW27.out.size _
    clear HX27 HK27 HV27 HF27 HW27
    go_wp2_with fail
    generalize hW28 : w27.alloc (.cells #[.slice rS Mz.slots.length tS, .slice rH Mz.heads.length tH, .slice rF Mz.free.length tF, .slice rL Mz.locks.length tL, .int .i64 Mz.now] 29) = W28 at *
    clear hW28
    refine (flows_at HL2.out.1 HL2.out.2 _ W28 0 HA27.out).mono ?_
    rintro e w29 ⟨ao3, cap3, rfl, hr3, b29⟩
    have HX29 : Hid (w29.heap[w.heap.size]? = some (.cells #[.slice aS M.slots.length cS, .slice aH M.heads.length cH, .slice aF M.free.length cF, .slice aL M.locks.length cL, .int .i64 M.now] 29 (0, 0))) := (b29.block (w.heap.size) (lt_of_block HX28.out)).trans HX28.out
    have HK29 : Hid (w29.heap[w.heap.size + 1]? = some (.cells #[.int .i64 ka, .int .i64 kb] 37 (0, 0))) := (b29.block (w.heap.size + 1) (lt_of_block HK28.out)).trans HK28.out
    have HV29 : Hid (w29.heap[V]? = some (.cells #[.slice ao1 fl0.length cap1] 60 (0, 0))) := (b29.block (V) (lt_of_block HV28.out)).trans HV28.out
    have HF29 : Hid (FRow w29 ao1 cap1 fl0) := HF28.out.below b29
    have HW29 : Hid (Below w.heap.size w w29) := HW28.out.trans (b29.mono HW28.out.size)
    clear HX28 HK28 HV28 HF28 HW28
    have HG30 : Hid (FRow (w29.alloc (.cells #[.slice ao3 fl2.length cap3] 60)) ao3 cap3 fl2) := hr3.below (one_below _ _)
    have HV30 : Hid ((w29.alloc (.cells #[.slice ao3 fl2.length cap3] 60)).heap[w29.heap.size]? = some (.cells #[.slice ao3 fl2.length cap3] 60)) := heap_alloc_new _ _
    clear hr3 b29 HA27
    obtain ⟨q0, q1, q2, q3, q4, f0, f1, f2, f3, f4, qs⟩ := boxf HX29.out
    obtain ⟨p0, p1⟩ := keyf HK29.out
    obtain ⟨v0, -, vs⟩ := var_cell HV29.out
    have ps := lt_of_block HK29.out
    clear f0 f1 f2 f3 f4
    have HX31 : Hid ((w29.alloc (.cells #[.slice ao3 fl2.length cap3] 60)).heap[w.heap.size]? = some (.cells #[.slice aS M.slots.length cS, .slice aH M.heads.length cH, .slice aF M.free.length cF, .slice aL M.locks.length cL, .int .i64 M.now] 29 (0, 0))) := (Below.heap_alloc _ _ _ (lt_of_block HX29.out)).trans HX29.out
    have HK31 : Hid ((w29.alloc (.cells #[.slice ao3 fl2.length cap3] 60)).heap[w.heap.size + 1]? = some (.cells #[.int .i64 ka, .int .i64 kb] 37 (0, 0))) := (Below.heap_alloc _ _ _ (lt_of_block HK29.out)).trans HK29.out
    have HV31 : Hid ((w29.alloc (.cells #[.slice ao3 fl2.length cap3] 60)).heap[V]? = some (.cells #[.slice ao1 fl0.length cap1] 60 (0, 0))) := (Below.heap_alloc _ _ _ (lt_of_block HV29.out)).trans HV29.out
    have HF31 : Hid (FRow (w29.alloc (.cells #[.slice ao3 fl2.length cap3] 60)) ao1 cap1 fl0) := HF29.out.below (one_below _ _)
    have HW31 : Hid (Below w.heap.size w (w29.alloc (.cells #[.slice ao3 fl2.length cap3] 60))) := HW29.out.alloc HW29.out.size _
    clear HX29 HK29 HV29 HF29 HW29
    go_wp2_with fail
    generalize hW31 : w29.alloc (.cells #[.slice ao3 fl2.length cap3] 60) = W31 at *
    clear hW31
    refine (containsFn_any 55 #[.pointer (some ⟨w29.heap.size, 0, none⟩)] (fun f => !hasF fl2 f) ao1 cap1 fl0 W31 (by omega) HF31.out fn55 (fun x W hW => not_in55 ao3 cap3 fl2 w29.heap.size x W (by omega) ((hW.block w29.heap.size (lt_of_block HV30.out)).trans HV30.out) (HG30.out.below hW))).mono ?_
    rw [HN2.out]
    rintro e w32 ⟨rfl, b32⟩
    have HW32 : Hid (Below w.heap.size w w32) := HW31.out.trans (b32.mono HW31.out.size)
    clear b32
    go_wp2
    go_ret
    exact ⟨rfl, HW32.out⟩



end Go.Proofs.Ytdbilofhcadmoaa.mm
