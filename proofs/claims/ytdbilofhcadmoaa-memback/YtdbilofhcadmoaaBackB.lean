/- MemBack's walk: for every memory, key, time and slot it answers true. -/
import Derived.Test.YtdbilofhcadmoaaOftenA
import Derived.Test.YtdbilofhcadmoaaBackA
import Derived.Lib.QuietBelow
import Derived.Deep.QuietTactic
import Derived.BigQuiet
namespace Go.Proofs.Ytdbilofhcadmoaa.mm
open Go.ChangeShapes Go.WideShapes Go.ChangeAt Go.RowKit Go.Joins Go.Deep Go.Sort
set_option linter.unusedVariables false

theorem SRow.cells {w : World} {b o cap : Nat} {l : List Sl} (r : SRow w (some ⟨b, o, none⟩) cap l) {i : Nat} (h : i < l.length) :
    w.cell? ⟨b, o + i * 6, none⟩ = some (.int .i64 l[i].refs) ∧ w.cell? ⟨b, o + i * 6 + 1, none⟩ = some (.int .i64 l[i].a) ∧ w.cell? ⟨b, o + i * 6 + 2, none⟩ = some (.int .i64 l[i].b) ∧
    w.cell? ⟨b, o + i * 6 + 3, none⟩ = some (.int .i64 l[i].unt) ∧ w.cell? ⟨b, o + i * 6 + 4, none⟩ = some (.bool l[i].inn) ∧ w.cell? ⟨b, o + i * 6 + 5, none⟩ = some (.int .i64 l[i].next) := by
  rcases r.at_ with h0 | ⟨b', o', e, hc⟩
  · omega
  · cases e
    exact hc i h

/- The boxes of what came in. -/
structure Bk (w wr : World) (o1 : Obj) (ka kb : Int) : Prop where
  box : wr.heap[w.heap.size]? = some o1
  key : wr.heap[w.heap.size + 1]? = some (.cells #[.int .i64 ka, .int .i64 kb] 37 (0, 0))
  below : Below w.heap.size w wr

theorem Bk.keep {w wr w' : World} {o1 : Obj} {ka kb : Int} (I : Bk w wr o1 ka kb) (hb : Below wr.heap.size wr w') : Bk w w' o1 ka kb :=
  ⟨(hb.block _ (lt_of_block I.box)).trans I.box, (hb.block _ (lt_of_block I.key)).trans I.key, I.below.trans (hb.mono I.below.size)⟩

set_option maxRecDepth 100000 in
set_option maxHeartbeats 6400000 in
theorem back_any (M : Mm) (v : Value) (ka kb u a : Int) (w : World) (A : Ans 0 w v M) (hu : -9223372036854775808 ≤ u ∧ u ≤ 9223372036854775807) (ha : -9223372036854775808 ≤ a ∧ a ≤ 9223372036854775807) :
    Calls Try.prog 6 #[v, .agg #[.int .i64 ka, .int .i64 kb], .int .i64 u, .int .i64 a] w fun e w' => e = .returned (.bool true) ∧ Below w.heap.size w w' := by
  obtain ⟨aS1, aH1, aF1, aL1, cS1, cH1, cF1, cL1, rfl, A, -⟩ := A
  have m1 := A.s.max; have m3 := A.f.max
  have HA : Hid _ := A
  obtain ⟨o1, ho1⟩ : ∃ o : Obj, o = .cells #[.slice aS1 M.slots.length cS1, .slice aH1 M.heads.length cH1, .slice aF1 M.free.length cF1, .slice aL1 M.locks.length cL1, .int .i64 M.now] 29 := ⟨_, rfl⟩
  obtain ⟨o3, ho3⟩ : ∃ o : Obj, o = .cells #[.int .i64 ka, .int .i64 kb] 37 := ⟨_, rfl⟩
  have HJ0 : Hid (Bk w ((w.alloc o1).alloc o3) o1 ka kb) := ⟨by rw [Below.heap_alloc _ _ _ (by simp), heap_alloc_new], by
    have := heap_alloc_new (w.alloc o1) o3
    rw [show (w.alloc o1).heap.size = w.heap.size + 1 by simp] at this
    rw [this, ho3], below_alloc2 w o1 o3⟩
  clear A
  go_enter Try.func6, Try.ntmps6
  go_wp2_with fail
  rw [← ho1, ← ho3]
  generalize (w.alloc o1).alloc o3 = W0 at *
  subst ho1 ho3
  have HA0 : Hid (Ans 0 W0 (.agg #[.slice aS1 M.slots.length cS1, .slice aH1 M.heads.length cH1, .slice aF1 M.free.length cF1, .slice aL1 M.locks.length cL1, .int .i64 M.now]) M) := ⟨aS1, aH1, aF1, aL1, cS1, cH1, cF1, cL1, rfl, HA.out.below HJ0.out.below, ⟨fun _ _ => Nat.zero_le _, fun _ _ => Nat.zero_le _, fun _ _ => Nat.zero_le _, fun _ _ => Nat.zero_le _⟩⟩
  generalize hHE : heldE M a = E1
  generalize hHM : heldM M a = M1
  refine (held_at hHM hHE _ W0 0 HA0.out).mono ?_
  rintro e w1 ⟨v1, rfl, ⟨aS2, aH2, aF2, aL2, cS2, cH2, cF2, cL2, rfl, A2, hi2⟩, hb2⟩
  have HHE : Hid _ := hHE
  have HHM : Hid _ := hHM
  clear hHE hHM
  have HJ1 : Hid _ := (HJ0.out.keep hb2).keep (one_below _ (.cells #[.slice aS2 M1.slots.length cS2, .slice aH2 M1.heads.length cH2, .slice aF2 M1.free.length cF2, .slice aL2 M1.locks.length cL2, .int .i64 M1.now] 29))
  have HX1 : Hid ((w1.alloc (.cells #[.slice aS2 M1.slots.length cS2, .slice aH2 M1.heads.length cH2, .slice aF2 M1.free.length cF2, .slice aL2 M1.locks.length cL2, .int .i64 M1.now] 29)).heap[w1.heap.size]? = some (.cells #[.slice aS2 M1.slots.length cS2, .slice aH2 M1.heads.length cH2, .slice aF2 M1.free.length cF2, .slice aL2 M1.locks.length cL2, .int .i64 M1.now] 29 (0, 0))) := heap_alloc_new _ _
  have HA1 : Hid (Ans 0 (w1.alloc (.cells #[.slice aS2 M1.slots.length cS2, .slice aH2 M1.heads.length cH2, .slice aF2 M1.free.length cF2, .slice aL2 M1.locks.length cL2, .int .i64 M1.now] 29)) (.agg #[.slice aS2 M1.slots.length cS2, .slice aH2 M1.heads.length cH2, .slice aF2 M1.free.length cF2, .slice aL2 M1.locks.length cL2, .int .i64 M1.now]) M1) := Ans.below ⟨aS2, aH2, aF2, aL2, cS2, cH2, cF2, cL2, rfl, A2, ⟨fun _ _ => Nat.zero_le _, fun _ _ => Nat.zero_le _, fun _ _ => Nat.zero_le _, fun _ _ => Nat.zero_le _⟩⟩ (one_below _ _)
  clear A2 hi2 hb2 HJ0 HA0
  by_cases hE1 : E1 = 0
  · subst hE1
    obtain ⟨hl1, hl2⟩ := hold_let HHE.out
    rw [HHM.out] at hl1 hl2
    have HL : Hid (letE M1 a = 0 ∧ letM M1 a = M) := ⟨hl1, hl2⟩
    clear hl1 hl2 HHE HHM
    obtain ⟨q0, q1, q2, q3, q4, -, -, -, -, -, qs⟩ := boxf HX1.out
    go_wp2_with fail
    generalize w1.alloc (.cells #[.slice aS2 M1.slots.length cS2, .slice aH2 M1.heads.length cH2, .slice aF2 M1.free.length cF2, .slice aL2 M1.locks.length cL2, .int .i64 M1.now] 29) = W1 at *
    refine (let_at HL.out.2 HL.out.1 _ W1 0 HA1.out).mono ?_
    rintro e w2 ⟨v2, rfl, ⟨aS5, aH5, aF5, aL5, cS5, cH5, cF5, cL5, rfl, A5, hi5⟩, hb5⟩
    have HJ2 : Hid _ := (HJ1.out.keep hb5).keep (one_below _ (.cells #[.slice aS5 M.slots.length cS5, .slice aH5 M.heads.length cH5, .slice aF5 M.free.length cF5, .slice aL5 M.locks.length cL5, .int .i64 M.now] 29))
    have HA5 : Hid (Ans 0 (w2.alloc (.cells #[.slice aS5 M.slots.length cS5, .slice aH5 M.heads.length cH5, .slice aF5 M.free.length cF5, .slice aL5 M.locks.length cL5, .int .i64 M.now] 29)) (.agg #[.slice aS5 M.slots.length cS5, .slice aH5 M.heads.length cH5, .slice aF5 M.free.length cF5, .slice aL5 M.locks.length cL5, .int .i64 M.now]) M) := Ans.below ⟨aS5, aH5, aF5, aL5, cS5, cH5, cF5, cL5, rfl, A5, ⟨fun _ _ => Nat.zero_le _, fun _ _ => Nat.zero_le _, fun _ _ => Nat.zero_le _, fun _ _ => Nat.zero_le _⟩⟩ (one_below _ _)
    have kB := (HJ1.out.keep hb5).box
    clear A5 hi5 hb5 HJ1 HA1 HX1 q0 q1 q2 q3 q4 qs
    have HAm : Hid (Ans 0 (w2.alloc (.cells #[.slice aS5 M.slots.length cS5, .slice aH5 M.heads.length cH5, .slice aF5 M.free.length cF5, .slice aL5 M.locks.length cL5, .int .i64 M.now] 29)) (.agg #[.slice aS1 M.slots.length cS1, .slice aH1 M.heads.length cH1, .slice aF1 M.free.length cF1, .slice aL1 M.locks.length cL1, .int .i64 M.now]) M) := ⟨aS1, aH1, aF1, aL1, cS1, cH1, cF1, cL1, rfl, HA.out.below HJ2.out.below, ⟨fun _ _ => Nat.zero_le _, fun _ _ => Nat.zero_le _, fun _ _ => Nat.zero_le _, fun _ _ => Nat.zero_le _⟩⟩
    obtain ⟨q0, q1, q2, q3, q4, f0, f1, f2, f3, f4, qs⟩ := boxf kB
    clear kB
    go_wp2_with fail
    generalize w2.alloc (.cells #[.slice aS5 M.slots.length cS5, .slice aH5 M.heads.length cH5, .slice aF5 M.free.length cF5, .slice aL5 M.locks.length cL5, .int .i64 M.now] 29) = W2 at *
    refine (same_any M M _ _ W2 0 0 HA5.out HAm.out).mono ?_
    rw [(eqM_iff M M).2 rfl]
    rintro e wz ⟨rfl, hb6⟩
    have HJ : Hid _ := HJ2.out.keep hb6
    clear hb6 HJ2 HA5 HAm q0 q1 q2 q3 q4 f0 f1 f2 f3 f4 qs
    obtain ⟨q0, q1, q2, q3, q4, f0, f1, f2, f3, f4, qs⟩ := boxf HJ.out.box
    obtain ⟨k0, k1⟩ := keyf HJ.out.key
    go_wp2_with fail
    have HAz : Hid (Ans 0 wz (.agg #[.slice aS1 M.slots.length cS1, .slice aH1 M.heads.length cH1, .slice aF1 M.free.length cF1, .slice aL1 M.locks.length cL1, .int .i64 M.now]) M) := ⟨aS1, aH1, aF1, aL1, cS1, cH1, cF1, cL1, rfl, HA.out.below HJ.out.below, ⟨fun _ _ => Nat.zero_le _, fun _ _ => Nat.zero_le _, fun _ _ => Nat.zero_le _, fun _ _ => Nat.zero_le _⟩⟩
    generalize hTE : takenE M ka kb u = E at *
    generalize hTN : takenN M ka kb u = N0 at *
    generalize hTM : takenM M ka kb u = Mx at *
    refine (taken_at hTM hTN hTE _ wz 0 HAz.out).mono ?_
    rintro e w3 ⟨v3, rfl, ⟨aS3, aH3, aF3, aL3, cS3, cH3, cF3, cL3, rfl, A3, hi3⟩, hb3⟩
    have HTE : Hid _ := hTE
    have HTN : Hid _ := hTN
    have HTM : Hid _ := hTM
    clear hTE hTN hTM
    have HJ3 : Hid _ := (HJ.out.keep hb3).keep (one_below _ (.cells #[.slice aS3 Mx.slots.length cS3, .slice aH3 Mx.heads.length cH3, .slice aF3 Mx.free.length cF3, .slice aL3 Mx.locks.length cL3, .int .i64 Mx.now] 29))
    have HX3 : Hid ((w3.alloc (.cells #[.slice aS3 Mx.slots.length cS3, .slice aH3 Mx.heads.length cH3, .slice aF3 Mx.free.length cF3, .slice aL3 Mx.locks.length cL3, .int .i64 Mx.now] 29)).heap[w3.heap.size]? = some (.cells #[.slice aS3 Mx.slots.length cS3, .slice aH3 Mx.heads.length cH3, .slice aF3 Mx.free.length cF3, .slice aL3 Mx.locks.length cL3, .int .i64 Mx.now] 29 (0, 0))) := heap_alloc_new _ _
    have HA3 : Hid (At (w3.alloc (.cells #[.slice aS3 Mx.slots.length cS3, .slice aH3 Mx.heads.length cH3, .slice aF3 Mx.free.length cF3, .slice aL3 Mx.locks.length cL3, .int .i64 Mx.now] 29)) aS3 aH3 aF3 aL3 cS3 cH3 cF3 cL3 Mx) := A3.below (one_below _ _)
    clear A3 hi3 hb3 HJ HAz q0 q1 q2 q3 q4 f0 f1 f2 f3 f4 qs k0 k1
    go_wp2_with fail
    generalize w3.alloc (.cells #[.slice aS3 Mx.slots.length cS3, .slice aH3 Mx.heads.length cH3, .slice aF3 Mx.free.length cF3, .slice aL3 Mx.locks.length cL3, .int .i64 Mx.now] 29) = W3 at *
    generalize w3.heap.size = X at *
    refine (filled_any W3).mono ?_
    rintro e w4 ⟨rfl, hb4⟩
    have HJ4 : Hid _ := HJ3.out.keep hb4
    have HX4 : Hid _ := (hb4.block X (lt_of_block HX3.out)).trans HX3.out
    have HA4 : Hid _ := HA3.out.below hb4
    clear hb4 HJ3 HX3 HA3
    by_cases hE : E = 0
    rotate_left
    · have h' : (E != 0) = true := by simpa using hE
      go_wp2_with (go_at_call 14; refine (filled_any _).mono ?_; rintro e w5 ⟨rfl, hb5⟩)
      go_ret
      exact ⟨rfl, HJ4.out.below.trans (hb5.mono HJ4.out.below.size)⟩
    subst hE
    obtain ⟨j, hj, Mx', My, e1, e2, hr0, hxs, hxf, hxc, hle, hlm, hte, htn, htm⟩ := back_pure HTE.out
    obtain rfl : Mx = Mx' := HTM.out.symm.trans e2
    obtain rfl : N0 = (j : Int) := HTN.out.symm.trans e1
    have HP : Hid (chk Mx = 0 ∧ letE Mx j = 0 ∧ letM Mx j = My ∧ takenE My ka kb u = 0 ∧ takenN My ka kb u = j ∧ takenM My ka kb u = Mx) := ⟨hxc, hle, hlm, hte, htn, htm⟩
    have HXS : Hid _ := hxs
    clear e1 e2 HTE HTN HTM hxc hle hlm hte htn htm hxs
    have HMz : Hid _ := HA.out.below HJ4.out.below
    rcases HMz.out.s.at_ with h0 | ⟨bm, om, rfl, hcm⟩
    · omega
    have hxl : Mx.slots.length = M.slots.length := by rw [HXS.out, List.length_set]
    have HXL : Hid _ := hxl
    rcases HA4.out.s.at_ with h0 | ⟨bx, ox, rfl, hcx⟩
    · omega
    have jx' : j < Mx.slots.length := by omega
    have jm : (j : Int) < (M.slots.length : Int) := by omega
    have jx : (j : Int) < (Mx.slots.length : Int) := by omega
    clear hxl
    have cm0 := (hcm j hj).1
    rw [hr0] at cm0
    have hxj : Mx.slots[j] = ⟨1, ka, kb, u, false, M.slots[j].next⟩ := by simp [HXS.out]
    have cx0 := (hcx j jx').1
    have cx1 := (hcx j jx').2.1
    have cx2 := (hcx j jx').2.2.1
    rw [hxj] at cx0 cx1 cx2
    dsimp only at cx0 cx1 cx2
    clear hxj hr0
    obtain ⟨p0, p1, p2, p3, p4, -, -, -, -, -, ps⟩ := boxf HJ4.out.box
    obtain ⟨q0, q1, q2, q3, q4, -, -, -, -, -, qs⟩ := boxf HX4.out
    obtain ⟨k0, k1⟩ := keyf HJ4.out.key
    have cC : ∀ d os, Calls Try.prog 15 #[.agg #[.slice (some ⟨bx, ox, none⟩) Mx.slots.length cS3, .slice aH3 Mx.heads.length cH3, .slice aF3 Mx.free.length cF3, .slice aL3 Mx.locks.length cL3, .int .i64 Mx.now]] (grow (redrawn w4 d) os) fun e w'' => e = .returned (.int .i64 0) ∧ ∃ p : Regrown, w'' = grow (redrawn w4 p.d) p.os := fun d os => Calls.regrown_of (by
      have := check_any Mx _ _ _ _ _ _ _ _ _ (HA4.out.below (below_regrown w4 d os))
      rw [HP.out.1] at this
      exact this)
    have K0 := cell_regrown p0
    have K2 := cell_regrown p2
    have L0 := cell_regrown q0
    have L1 := cell_regrown q1
    have L2 := cell_regrown q2
    have L3 := cell_regrown q3
    have L4 := cell_regrown q4
    have N0 := cell_regrown k0
    have N1 := cell_regrown k1
    have C0 := cell_regrown cm0
    have D0 := cell_regrown cx0
    have D1 := cell_regrown cx1
    have D2 := cell_regrown cx2
    have hfn : ((Mx.free.length : Int) != (M.free.length : Int) - 1) = false := by rw [bne_eq_false_iff_eq]; omega
    have jn0 : ¬ (j : Int) < 0 := by omega
    have hw2 : wrap64 ((M.free.length : Int) - 1) = (M.free.length : Int) - 1 := by unfold wrap64; omega
    have hw1 : IntKind.i64.wrap ((M.free.length : Int) - 1) = (M.free.length : Int) - 1 := by rw [IntKind.wrap_i64]; omega
    have HCM : Hid _ := hcm
    have HCX : Hid _ := hcx
    have HXF : Hid _ := hxf
    clear hcm hcx hxf
    have ke := kequal
    clear p0 p1 p2 p3 p4 q0 q1 q2 q3 q4 k0 k1 cm0 cx0 cx1 cx2
    go_wp2_with fail
    refine wp_region_quiet_below (by kernel_rfl) (by kernel_rfl) ?_
    repeat (quiet_step (first | exact cC _ _))
    refine wpQuiet_nil ?_
    intro _ hw'
    obtain ⟨⟨dq, osq⟩, hw''⟩ := hw'
    subst hw''
    have bR := below_regrown w4 dq osq
    have HJ5 : Hid _ := HJ4.out.keep bR
    have HX5 : Hid _ := (bR.block X (lt_of_block HX4.out)).trans HX4.out
    have HAX : Hid _ := HA4.out.below bR
    have HAM : Hid _ := HMz.out.below bR
    generalize grow (redrawn w4 dq) osq = W5 at *
    clear K0 K2 L0 L1 L2 L3 L4 N0 N1 C0 D0 D1 D2 cC bR HJ4 HX4 HA4 HMz HCM HCX ps qs hfn ke hw1 hw2
    obtain ⟨p0, p1, p2, p3, p4, -, -, -, -, -, ps⟩ := boxf HJ5.out.box
    go_wp2
    clear p0 p1 p2 p3 p4
    go_loopw [114] (fun i wr => ∃ k : Nat, k ≤ M.slots.length ∧ i = .int .i64 k ∧ Below W5.heap.size W5 wr) (fun i _ => M.slots.length - (intOf i).toNat)
    case atStart => exact ⟨0, Nat.zero_le _, rfl, Below.refl _ _⟩
    case round =>
      obtain ⟨k, hk, rfl, hb⟩ := hrel
      have HXr : Hid _ := (hb.block X (lt_of_block HX5.out)).trans HX5.out
      obtain ⟨q0, q1, q2, q3, q4, -, -, -, -, -, qs⟩ := boxf HXr.out
      have tX : X < wr.heap.size := qs
      by_cases hlt : k < M.slots.length
      · obtain ⟨c0, c1, c2, c3, c4, c5⟩ := (HAM.out.s.below hb).cells hlt
        by_cases hkj : k = j
        · subst hkj
          have hg : ((k : Int) != (k : Int)) = false := by simp
          generalize M.slots[k] = s at c0 c1 c2 c3 c4 c5
          go_wp2_with fail
          go_quiet (fail)
          go_wp2
          go_roundw
          case rel => exact ⟨k + 1, by omega, by go_num, (hb.alloc hb.size _).trans ((drewN_below _ _).mono (by have := hb.size; simp; omega))⟩
          case measure => simp [intOf]; omega
        · have hg : ((k : Int) != (j : Int)) = true := by rw [bne_iff_ne]; omega
          have hkx : k < Mx.slots.length := by have := HXL.out; omega
          have kx : (k : Int) < (Mx.slots.length : Int) := by omega
          obtain ⟨d0, d1, d2, d3, d4, d5⟩ := (HAX.out.s.below hb).cells hkx
          have hsame : Mx.slots[k] = M.slots[k] := by
            have e : Mx.slots[k]? = M.slots[k]? := by rw [HXS.out, List.getElem?_set_ne (by omega)]
            rw [List.getElem?_eq_getElem hkx, List.getElem?_eq_getElem hlt] at e
            exact Option.some.inj e
          rw [hsame] at d0 d1 d2 d3 d4 d5
          clear hsame
          generalize M.slots[k] = s at c0 c1 c2 c3 c4 c5 d0 d1 d2 d3 d4 d5
          have tB : bx < wr.heap.size := cell_lt d0
          have se := sequal s s
          rw [slEq_refl] at se
          go_wp2_with fail
          go_quiet (fail)
          go_wp2
          go_roundw
          case rel => exact ⟨k + 1, by omega, by go_num, (hb.alloc hb.size _).trans ((drewN_below _ _).mono (by have := hb.size; simp; omega))⟩
          case measure => simp [intOf]; omega
      · have HJ6 : Hid _ := HJ5.out.keep hb
        have HAX6 : Hid (Ans 0 wr (.agg #[.slice (some ⟨bx, ox, none⟩) Mx.slots.length cS3, .slice aH3 Mx.heads.length cH3, .slice aF3 Mx.free.length cF3, .slice aL3 Mx.locks.length cL3, .int .i64 Mx.now]) Mx) := ⟨some ⟨bx, ox, none⟩, aH3, aF3, aL3, cS3, cH3, cF3, cL3, rfl, HAX.out.below hb, ⟨fun _ _ => Nat.zero_le _, fun _ _ => Nat.zero_le _, fun _ _ => Nat.zero_le _, fun _ _ => Nat.zero_le _⟩⟩
        go_wp2_with fail
        refine (let_at HP.out.2.2.1 HP.out.2.1 _ wr 0 HAX6.out).mono ?_
        rintro e w6 ⟨v6, rfl, ⟨aS6, aH6, aF6, aL6, cS6, cH6, cF6, cL6, rfl, A6, hi6⟩, hb6⟩
        have HJ7 : Hid _ := (HJ6.out.keep hb6).keep (one_below _ (.cells #[.slice aS6 My.slots.length cS6, .slice aH6 My.heads.length cH6, .slice aF6 My.free.length cF6, .slice aL6 My.locks.length cL6, .int .i64 My.now] 29))
        have bb7 := hb6.alloc hb6.size (.cells #[.slice aS6 My.slots.length cS6, .slice aH6 My.heads.length cH6, .slice aF6 My.free.length cF6, .slice aL6 My.locks.length cL6, .int .i64 My.now] 29)
        have HAX7 : Hid (Ans 0 (w6.alloc (.cells #[.slice aS6 My.slots.length cS6, .slice aH6 My.heads.length cH6, .slice aF6 My.free.length cF6, .slice aL6 My.locks.length cL6, .int .i64 My.now] 29)) (.agg #[.slice (some ⟨bx, ox, none⟩) Mx.slots.length cS3, .slice aH3 Mx.heads.length cH3, .slice aF3 Mx.free.length cF3, .slice aL3 Mx.locks.length cL3, .int .i64 Mx.now]) Mx) := Ans.below HAX6.out bb7
        have HX7 : Hid ((w6.alloc (.cells #[.slice aS6 My.slots.length cS6, .slice aH6 My.heads.length cH6, .slice aF6 My.free.length cF6, .slice aL6 My.locks.length cL6, .int .i64 My.now] 29)).heap[X]? = _) := (bb7.block X (lt_of_block HXr.out)).trans HXr.out
        have HAY : Hid (Ans 0 (w6.alloc (.cells #[.slice aS6 My.slots.length cS6, .slice aH6 My.heads.length cH6, .slice aF6 My.free.length cF6, .slice aL6 My.locks.length cL6, .int .i64 My.now] 29)) (.agg #[.slice aS6 My.slots.length cS6, .slice aH6 My.heads.length cH6, .slice aF6 My.free.length cF6, .slice aL6 My.locks.length cL6, .int .i64 My.now]) My) := Ans.below ⟨aS6, aH6, aF6, aL6, cS6, cH6, cF6, cL6, rfl, A6, ⟨fun _ _ => Nat.zero_le _, fun _ _ => Nat.zero_le _, fun _ _ => Nat.zero_le _, fun _ _ => Nat.zero_le _⟩⟩ (one_below _ _)
        obtain ⟨k0, k1⟩ := keyf (HJ6.out.keep hb6).key
        have tk := lt_of_block (HJ6.out.keep hb6).key
        clear A6 hi6 hb6 bb7 HJ6 HAX6 q0 q1 q2 q3 q4 qs HXr
        go_wp2_with fail
        generalize w6.alloc (.cells #[.slice aS6 My.slots.length cS6, .slice aH6 My.heads.length cH6, .slice aF6 My.free.length cF6, .slice aL6 My.locks.length cL6, .int .i64 My.now] 29) = W6 at *
        refine (taken_at HP.out.2.2.2.2.2 HP.out.2.2.2.2.1 HP.out.2.2.2.1 _ W6 0 HAY.out).mono ?_
        rintro e w7 ⟨v7, rfl, ⟨aS7, aH7, aF7, aL7, cS7, cH7, cF7, cL7, rfl, A7, hi7⟩, hb7⟩
        have bb8 := hb7.alloc hb7.size (.cells #[.slice aS7 Mx.slots.length cS7, .slice aH7 Mx.heads.length cH7, .slice aF7 Mx.free.length cF7, .slice aL7 Mx.locks.length cL7, .int .i64 Mx.now] 29)
        have HJ8 : Hid _ := HJ7.out.keep bb8
        have HAZ : Hid (Ans 0 (w7.alloc (.cells #[.slice aS7 Mx.slots.length cS7, .slice aH7 Mx.heads.length cH7, .slice aF7 Mx.free.length cF7, .slice aL7 Mx.locks.length cL7, .int .i64 Mx.now] 29)) (.agg #[.slice aS7 Mx.slots.length cS7, .slice aH7 Mx.heads.length cH7, .slice aF7 Mx.free.length cF7, .slice aL7 Mx.locks.length cL7, .int .i64 Mx.now]) Mx) := Ans.below ⟨aS7, aH7, aF7, aL7, cS7, cH7, cF7, cL7, rfl, A7, ⟨fun _ _ => Nat.zero_le _, fun _ _ => Nat.zero_le _, fun _ _ => Nat.zero_le _, fun _ _ => Nat.zero_le _⟩⟩ (one_below _ _)
        have HAX8 : Hid (Ans 0 (w7.alloc (.cells #[.slice aS7 Mx.slots.length cS7, .slice aH7 Mx.heads.length cH7, .slice aF7 Mx.free.length cF7, .slice aL7 Mx.locks.length cL7, .int .i64 Mx.now] 29)) (.agg #[.slice (some ⟨bx, ox, none⟩) Mx.slots.length cS3, .slice aH3 Mx.heads.length cH3, .slice aF3 Mx.free.length cF3, .slice aL3 Mx.locks.length cL3, .int .i64 Mx.now]) Mx) := Ans.below HAX7.out bb8
        obtain ⟨q0, q1, q2, q3, q4, -, -, -, -, -, qs⟩ := boxf ((hb7.block X (lt_of_block HX7.out)).trans HX7.out)
        clear A7 hi7 hb7 bb8 HJ7 HAX7 HX7 HAY k0 k1 tk
        go_wp2_with fail
        generalize w7.alloc (.cells #[.slice aS7 Mx.slots.length cS7, .slice aH7 Mx.heads.length cH7, .slice aF7 Mx.free.length cF7, .slice aL7 Mx.locks.length cL7, .int .i64 Mx.now] 29) = W8 at *
        refine (same_any Mx Mx _ _ W8 0 0 HAZ.out HAX8.out).mono ?_
        rw [(eqM_iff Mx Mx).2 rfl]
        rintro e w9 ⟨rfl, hb9⟩
        go_wp2
        go_ret
        exact ⟨rfl, HJ8.out.below.trans (hb9.mono HJ8.out.below.size)⟩
  · have hE1' : (E1 == 0) = false := by simpa using hE1
    obtain ⟨q0, q1, q2, q3, q4, f0, f1, f2, f3, f4, qs⟩ := boxf HJ1.out.box
    obtain ⟨k0, k1⟩ := keyf HJ1.out.key
    have HJ : Hid _ := HJ1.out
    clear HJ1 HX1 HA1 HHE HHM
    go_wp2_with fail
    generalize w1.alloc (.cells #[.slice aS2 M1.slots.length cS2, .slice aH2 M1.heads.length cH2, .slice aF2 M1.free.length cF2, .slice aL2 M1.locks.length cL2, .int .i64 M1.now] 29) = wz at *
    have HAz : Hid (Ans 0 wz (.agg #[.slice aS1 M.slots.length cS1, .slice aH1 M.heads.length cH1, .slice aF1 M.free.length cF1, .slice aL1 M.locks.length cL1, .int .i64 M.now]) M) := ⟨aS1, aH1, aF1, aL1, cS1, cH1, cF1, cL1, rfl, HA.out.below HJ.out.below, ⟨fun _ _ => Nat.zero_le _, fun _ _ => Nat.zero_le _, fun _ _ => Nat.zero_le _, fun _ _ => Nat.zero_le _⟩⟩
    generalize hTE : takenE M ka kb u = E at *
    generalize hTN : takenN M ka kb u = N0 at *
    generalize hTM : takenM M ka kb u = Mx at *
    refine (taken_at hTM hTN hTE _ wz 0 HAz.out).mono ?_
    rintro e w3 ⟨v3, rfl, ⟨aS3, aH3, aF3, aL3, cS3, cH3, cF3, cL3, rfl, A3, hi3⟩, hb3⟩
    have HTE : Hid _ := hTE
    have HTN : Hid _ := hTN
    have HTM : Hid _ := hTM
    clear hTE hTN hTM
    have HJ3 : Hid _ := (HJ.out.keep hb3).keep (one_below _ (.cells #[.slice aS3 Mx.slots.length cS3, .slice aH3 Mx.heads.length cH3, .slice aF3 Mx.free.length cF3, .slice aL3 Mx.locks.length cL3, .int .i64 Mx.now] 29))
    have HX3 : Hid ((w3.alloc (.cells #[.slice aS3 Mx.slots.length cS3, .slice aH3 Mx.heads.length cH3, .slice aF3 Mx.free.length cF3, .slice aL3 Mx.locks.length cL3, .int .i64 Mx.now] 29)).heap[w3.heap.size]? = some (.cells #[.slice aS3 Mx.slots.length cS3, .slice aH3 Mx.heads.length cH3, .slice aF3 Mx.free.length cF3, .slice aL3 Mx.locks.length cL3, .int .i64 Mx.now] 29 (0, 0))) := heap_alloc_new _ _
    have HA3 : Hid (At (w3.alloc (.cells #[.slice aS3 Mx.slots.length cS3, .slice aH3 Mx.heads.length cH3, .slice aF3 Mx.free.length cF3, .slice aL3 Mx.locks.length cL3, .int .i64 Mx.now] 29)) aS3 aH3 aF3 aL3 cS3 cH3 cF3 cL3 Mx) := A3.below (one_below _ _)
    clear A3 hi3 hb3 HJ HAz q0 q1 q2 q3 q4 f0 f1 f2 f3 f4 qs k0 k1
    go_wp2_with fail
    generalize w3.alloc (.cells #[.slice aS3 Mx.slots.length cS3, .slice aH3 Mx.heads.length cH3, .slice aF3 Mx.free.length cF3, .slice aL3 Mx.locks.length cL3, .int .i64 Mx.now] 29) = W3 at *
    generalize w3.heap.size = X at *
    refine (filled_any W3).mono ?_
    rintro e w4 ⟨rfl, hb4⟩
    have HJ4 : Hid _ := HJ3.out.keep hb4
    have HX4 : Hid _ := (hb4.block X (lt_of_block HX3.out)).trans HX3.out
    have HA4 : Hid _ := HA3.out.below hb4
    clear hb4 HJ3 HX3 HA3
    by_cases hE : E = 0
    rotate_left
    · have h' : (E != 0) = true := by simpa using hE
      go_wp2_with (go_at_call 14; refine (filled_any _).mono ?_; rintro e w5 ⟨rfl, hb5⟩)
      go_ret
      exact ⟨rfl, HJ4.out.below.trans (hb5.mono HJ4.out.below.size)⟩
    subst hE
    obtain ⟨j, hj, Mx', My, e1, e2, hr0, hxs, hxf, hxc, hle, hlm, hte, htn, htm⟩ := back_pure HTE.out
    obtain rfl : Mx = Mx' := HTM.out.symm.trans e2
    obtain rfl : N0 = (j : Int) := HTN.out.symm.trans e1
    have HP : Hid (chk Mx = 0 ∧ letE Mx j = 0 ∧ letM Mx j = My ∧ takenE My ka kb u = 0 ∧ takenN My ka kb u = j ∧ takenM My ka kb u = Mx) := ⟨hxc, hle, hlm, hte, htn, htm⟩
    have HXS : Hid _ := hxs
    clear e1 e2 HTE HTN HTM hxc hle hlm hte htn htm hxs
    have HMz : Hid _ := HA.out.below HJ4.out.below
    rcases HMz.out.s.at_ with h0 | ⟨bm, om, rfl, hcm⟩
    · omega
    have hxl : Mx.slots.length = M.slots.length := by rw [HXS.out, List.length_set]
    have HXL : Hid _ := hxl
    rcases HA4.out.s.at_ with h0 | ⟨bx, ox, rfl, hcx⟩
    · omega
    have jx' : j < Mx.slots.length := by omega
    have jm : (j : Int) < (M.slots.length : Int) := by omega
    have jx : (j : Int) < (Mx.slots.length : Int) := by omega
    clear hxl
    have cm0 := (hcm j hj).1
    rw [hr0] at cm0
    have hxj : Mx.slots[j] = ⟨1, ka, kb, u, false, M.slots[j].next⟩ := by simp [HXS.out]
    have cx0 := (hcx j jx').1
    have cx1 := (hcx j jx').2.1
    have cx2 := (hcx j jx').2.2.1
    rw [hxj] at cx0 cx1 cx2
    dsimp only at cx0 cx1 cx2
    clear hxj hr0
    obtain ⟨p0, p1, p2, p3, p4, -, -, -, -, -, ps⟩ := boxf HJ4.out.box
    obtain ⟨q0, q1, q2, q3, q4, -, -, -, -, -, qs⟩ := boxf HX4.out
    obtain ⟨k0, k1⟩ := keyf HJ4.out.key
    have cC : ∀ d os, Calls Try.prog 15 #[.agg #[.slice (some ⟨bx, ox, none⟩) Mx.slots.length cS3, .slice aH3 Mx.heads.length cH3, .slice aF3 Mx.free.length cF3, .slice aL3 Mx.locks.length cL3, .int .i64 Mx.now]] (grow (redrawn w4 d) os) fun e w'' => e = .returned (.int .i64 0) ∧ ∃ p : Regrown, w'' = grow (redrawn w4 p.d) p.os := fun d os => Calls.regrown_of (by
      have := check_any Mx _ _ _ _ _ _ _ _ _ (HA4.out.below (below_regrown w4 d os))
      rw [HP.out.1] at this
      exact this)
    have K0 := cell_regrown p0
    have K2 := cell_regrown p2
    have L0 := cell_regrown q0
    have L1 := cell_regrown q1
    have L2 := cell_regrown q2
    have L3 := cell_regrown q3
    have L4 := cell_regrown q4
    have N0 := cell_regrown k0
    have N1 := cell_regrown k1
    have C0 := cell_regrown cm0
    have D0 := cell_regrown cx0
    have D1 := cell_regrown cx1
    have D2 := cell_regrown cx2
    have hfn : ((Mx.free.length : Int) != (M.free.length : Int) - 1) = false := by rw [bne_eq_false_iff_eq]; omega
    have jn0 : ¬ (j : Int) < 0 := by omega
    have hw2 : wrap64 ((M.free.length : Int) - 1) = (M.free.length : Int) - 1 := by unfold wrap64; omega
    have hw1 : IntKind.i64.wrap ((M.free.length : Int) - 1) = (M.free.length : Int) - 1 := by rw [IntKind.wrap_i64]; omega
    have HCM : Hid _ := hcm
    have HCX : Hid _ := hcx
    have HXF : Hid _ := hxf
    clear hcm hcx hxf
    have ke := kequal
    clear p0 p1 p2 p3 p4 q0 q1 q2 q3 q4 k0 k1 cm0 cx0 cx1 cx2
    go_wp2_with fail
    refine wp_region_quiet_below (by kernel_rfl) (by kernel_rfl) ?_
    repeat (quiet_step (first | exact cC _ _))
    refine wpQuiet_nil ?_
    intro _ hw'
    obtain ⟨⟨dq, osq⟩, hw''⟩ := hw'
    subst hw''
    have bR := below_regrown w4 dq osq
    have HJ5 : Hid _ := HJ4.out.keep bR
    have HX5 : Hid _ := (bR.block X (lt_of_block HX4.out)).trans HX4.out
    have HAX : Hid _ := HA4.out.below bR
    have HAM : Hid _ := HMz.out.below bR
    generalize grow (redrawn w4 dq) osq = W5 at *
    clear K0 K2 L0 L1 L2 L3 L4 N0 N1 C0 D0 D1 D2 cC bR HJ4 HX4 HA4 HMz HCM HCX ps qs hfn ke hw1 hw2
    obtain ⟨p0, p1, p2, p3, p4, -, -, -, -, -, ps⟩ := boxf HJ5.out.box
    go_wp2
    clear p0 p1 p2 p3 p4
    go_loopw [114] (fun i wr => ∃ k : Nat, k ≤ M.slots.length ∧ i = .int .i64 k ∧ Below W5.heap.size W5 wr) (fun i _ => M.slots.length - (intOf i).toNat)
    case atStart => exact ⟨0, Nat.zero_le _, rfl, Below.refl _ _⟩
    case round =>
      obtain ⟨k, hk, rfl, hb⟩ := hrel
      have HXr : Hid _ := (hb.block X (lt_of_block HX5.out)).trans HX5.out
      obtain ⟨q0, q1, q2, q3, q4, -, -, -, -, -, qs⟩ := boxf HXr.out
      have tX : X < wr.heap.size := qs
      by_cases hlt : k < M.slots.length
      · obtain ⟨c0, c1, c2, c3, c4, c5⟩ := (HAM.out.s.below hb).cells hlt
        by_cases hkj : k = j
        · subst hkj
          have hg : ((k : Int) != (k : Int)) = false := by simp
          generalize M.slots[k] = s at c0 c1 c2 c3 c4 c5
          go_wp2_with fail
          go_quiet (fail)
          go_wp2
          go_roundw
          case rel => exact ⟨k + 1, by omega, by go_num, (hb.alloc hb.size _).trans ((drewN_below _ _).mono (by have := hb.size; simp; omega))⟩
          case measure => simp [intOf]; omega
        · have hg : ((k : Int) != (j : Int)) = true := by rw [bne_iff_ne]; omega
          have hkx : k < Mx.slots.length := by have := HXL.out; omega
          have kx : (k : Int) < (Mx.slots.length : Int) := by omega
          obtain ⟨d0, d1, d2, d3, d4, d5⟩ := (HAX.out.s.below hb).cells hkx
          have hsame : Mx.slots[k] = M.slots[k] := by
            have e : Mx.slots[k]? = M.slots[k]? := by rw [HXS.out, List.getElem?_set_ne (by omega)]
            rw [List.getElem?_eq_getElem hkx, List.getElem?_eq_getElem hlt] at e
            exact Option.some.inj e
          rw [hsame] at d0 d1 d2 d3 d4 d5
          clear hsame
          generalize M.slots[k] = s at c0 c1 c2 c3 c4 c5 d0 d1 d2 d3 d4 d5
          have tB : bx < wr.heap.size := cell_lt d0
          have se := sequal s s
          rw [slEq_refl] at se
          go_wp2_with fail
          go_quiet (fail)
          go_wp2
          go_roundw
          case rel => exact ⟨k + 1, by omega, by go_num, (hb.alloc hb.size _).trans ((drewN_below _ _).mono (by have := hb.size; simp; omega))⟩
          case measure => simp [intOf]; omega
      · have HJ6 : Hid _ := HJ5.out.keep hb
        have HAX6 : Hid (Ans 0 wr (.agg #[.slice (some ⟨bx, ox, none⟩) Mx.slots.length cS3, .slice aH3 Mx.heads.length cH3, .slice aF3 Mx.free.length cF3, .slice aL3 Mx.locks.length cL3, .int .i64 Mx.now]) Mx) := ⟨some ⟨bx, ox, none⟩, aH3, aF3, aL3, cS3, cH3, cF3, cL3, rfl, HAX.out.below hb, ⟨fun _ _ => Nat.zero_le _, fun _ _ => Nat.zero_le _, fun _ _ => Nat.zero_le _, fun _ _ => Nat.zero_le _⟩⟩
        go_wp2_with fail
        refine (let_at HP.out.2.2.1 HP.out.2.1 _ wr 0 HAX6.out).mono ?_
        rintro e w6 ⟨v6, rfl, ⟨aS6, aH6, aF6, aL6, cS6, cH6, cF6, cL6, rfl, A6, hi6⟩, hb6⟩
        have HJ7 : Hid _ := (HJ6.out.keep hb6).keep (one_below _ (.cells #[.slice aS6 My.slots.length cS6, .slice aH6 My.heads.length cH6, .slice aF6 My.free.length cF6, .slice aL6 My.locks.length cL6, .int .i64 My.now] 29))
        have bb7 := hb6.alloc hb6.size (.cells #[.slice aS6 My.slots.length cS6, .slice aH6 My.heads.length cH6, .slice aF6 My.free.length cF6, .slice aL6 My.locks.length cL6, .int .i64 My.now] 29)
        have HAX7 : Hid (Ans 0 (w6.alloc (.cells #[.slice aS6 My.slots.length cS6, .slice aH6 My.heads.length cH6, .slice aF6 My.free.length cF6, .slice aL6 My.locks.length cL6, .int .i64 My.now] 29)) (.agg #[.slice (some ⟨bx, ox, none⟩) Mx.slots.length cS3, .slice aH3 Mx.heads.length cH3, .slice aF3 Mx.free.length cF3, .slice aL3 Mx.locks.length cL3, .int .i64 Mx.now]) Mx) := Ans.below HAX6.out bb7
        have HX7 : Hid ((w6.alloc (.cells #[.slice aS6 My.slots.length cS6, .slice aH6 My.heads.length cH6, .slice aF6 My.free.length cF6, .slice aL6 My.locks.length cL6, .int .i64 My.now] 29)).heap[X]? = _) := (bb7.block X (lt_of_block HXr.out)).trans HXr.out
        have HAY : Hid (Ans 0 (w6.alloc (.cells #[.slice aS6 My.slots.length cS6, .slice aH6 My.heads.length cH6, .slice aF6 My.free.length cF6, .slice aL6 My.locks.length cL6, .int .i64 My.now] 29)) (.agg #[.slice aS6 My.slots.length cS6, .slice aH6 My.heads.length cH6, .slice aF6 My.free.length cF6, .slice aL6 My.locks.length cL6, .int .i64 My.now]) My) := Ans.below ⟨aS6, aH6, aF6, aL6, cS6, cH6, cF6, cL6, rfl, A6, ⟨fun _ _ => Nat.zero_le _, fun _ _ => Nat.zero_le _, fun _ _ => Nat.zero_le _, fun _ _ => Nat.zero_le _⟩⟩ (one_below _ _)
        obtain ⟨k0, k1⟩ := keyf (HJ6.out.keep hb6).key
        have tk := lt_of_block (HJ6.out.keep hb6).key
        clear A6 hi6 hb6 bb7 HJ6 HAX6 q0 q1 q2 q3 q4 qs HXr
        go_wp2_with fail
        generalize w6.alloc (.cells #[.slice aS6 My.slots.length cS6, .slice aH6 My.heads.length cH6, .slice aF6 My.free.length cF6, .slice aL6 My.locks.length cL6, .int .i64 My.now] 29) = W6 at *
        refine (taken_at HP.out.2.2.2.2.2 HP.out.2.2.2.2.1 HP.out.2.2.2.1 _ W6 0 HAY.out).mono ?_
        rintro e w7 ⟨v7, rfl, ⟨aS7, aH7, aF7, aL7, cS7, cH7, cF7, cL7, rfl, A7, hi7⟩, hb7⟩
        have bb8 := hb7.alloc hb7.size (.cells #[.slice aS7 Mx.slots.length cS7, .slice aH7 Mx.heads.length cH7, .slice aF7 Mx.free.length cF7, .slice aL7 Mx.locks.length cL7, .int .i64 Mx.now] 29)
        have HJ8 : Hid _ := HJ7.out.keep bb8
        have HAZ : Hid (Ans 0 (w7.alloc (.cells #[.slice aS7 Mx.slots.length cS7, .slice aH7 Mx.heads.length cH7, .slice aF7 Mx.free.length cF7, .slice aL7 Mx.locks.length cL7, .int .i64 Mx.now] 29)) (.agg #[.slice aS7 Mx.slots.length cS7, .slice aH7 Mx.heads.length cH7, .slice aF7 Mx.free.length cF7, .slice aL7 Mx.locks.length cL7, .int .i64 Mx.now]) Mx) := Ans.below ⟨aS7, aH7, aF7, aL7, cS7, cH7, cF7, cL7, rfl, A7, ⟨fun _ _ => Nat.zero_le _, fun _ _ => Nat.zero_le _, fun _ _ => Nat.zero_le _, fun _ _ => Nat.zero_le _⟩⟩ (one_below _ _)
        have HAX8 : Hid (Ans 0 (w7.alloc (.cells #[.slice aS7 Mx.slots.length cS7, .slice aH7 Mx.heads.length cH7, .slice aF7 Mx.free.length cF7, .slice aL7 Mx.locks.length cL7, .int .i64 Mx.now] 29)) (.agg #[.slice (some ⟨bx, ox, none⟩) Mx.slots.length cS3, .slice aH3 Mx.heads.length cH3, .slice aF3 Mx.free.length cF3, .slice aL3 Mx.locks.length cL3, .int .i64 Mx.now]) Mx) := Ans.below HAX7.out bb8
        obtain ⟨q0, q1, q2, q3, q4, -, -, -, -, -, qs⟩ := boxf ((hb7.block X (lt_of_block HX7.out)).trans HX7.out)
        clear A7 hi7 hb7 bb8 HJ7 HAX7 HX7 HAY k0 k1 tk
        go_wp2_with fail
        generalize w7.alloc (.cells #[.slice aS7 Mx.slots.length cS7, .slice aH7 Mx.heads.length cH7, .slice aF7 Mx.free.length cF7, .slice aL7 Mx.locks.length cL7, .int .i64 Mx.now] 29) = W8 at *
        refine (same_any Mx Mx _ _ W8 0 0 HAZ.out HAX8.out).mono ?_
        rw [(eqM_iff Mx Mx).2 rfl]
        rintro e w9 ⟨rfl, hb9⟩
        go_wp2
        go_ret
        exact ⟨rfl, HJ8.out.below.trans (hb9.mono HJ8.out.below.size)⟩


end Go.Proofs.Ytdbilofhcadmoaa.mm
