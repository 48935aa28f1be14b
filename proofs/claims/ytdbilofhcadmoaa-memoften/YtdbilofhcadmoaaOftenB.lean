/- MemOften's walk: for every memory, slot and number it answers true. -/
import Derived.Test.YtdbilofhcadmoaaOftenA
import Derived.Deep.QuietTactic
import Derived.BigQuiet
namespace Go.Proofs.Ytdbilofhcadmoaa.mm
open Go.ChangeShapes Go.WideShapes Go.ChangeAt Go.RowKit Go.Joins Go.Deep
set_option linter.unusedVariables false

theorem with_len (M : Mm) (i r : Int) : (withRefs M i r).slots.length = M.slots.length := by simp [withRefs, setRefs]

theorem with_cell {w : World} {M : Mm} {ja : Nat} {r : Int} (hj : ja < M.slots.length) {ad : Addr} {l : List Sl} (hl : l = (withRefs M ja r).slots)
    (h : ∀ i (h : i < l.length), w.cell? ⟨ad.block, ad.off + i * 6, none⟩ = some (.int .i64 l[i].refs)) : w.cell? ⟨ad.block, ad.off + ja * 6, none⟩ = some (.int .i64 r) := by
  subst hl
  have hl : ja < (withRefs M ja r).slots.length := by rw [with_len]; exact hj
  have := h ja hl
  rw [this]
  have e : (withRefs M ja r).slots[ja].refs = r := by simp [withRefs, setRefs]
  rw [e]

theorem freed_row {w : World} {Mf : Mm} {F : List Int} {a : Int} {aS aH aF aL : Option Addr} {cS cH cF cL : Nat} (A : Ans 0 w (.agg #[.slice aS Mf.slots.length cS, .slice aH Mf.heads.length cH, .slice aF Mf.free.length cF, .slice aL Mf.locks.length cL, .int .i64 Mf.now]) Mf) (hf : Mf.free = F ++ [a]) :
    ∃ b o, aF = some ⟨b, o, none⟩ ∧ w.cell? ⟨b, o + F.length, none⟩ = some (.int .i64 a) := by
  obtain ⟨_, _, _, _, _, _, _, _, e, A, _⟩ := A
  injection e with e
  simp only [Array.mk.injEq, List.cons.injEq, Value.slice.injEq] at e
  obtain ⟨-, -, ⟨rfl, -, rfl⟩, -⟩ := e
  have hl : Mf.free.length = F.length + 1 := by rw [hf]; simp
  rcases A.f.at_ with h0 | ⟨b, o, rfl, hc⟩
  · omega
  · refine ⟨b, o, rfl, ?_⟩
    rw [hc F.length (by omega)]
    simp [hf]

set_option maxHeartbeats 6400000 in
theorem often_any (M : Mm) (v : Value) (a times : Int) (w : World) (A : Ans 0 w v M) (ha : -9223372036854775808 ≤ a ∧ a ≤ 9223372036854775807) (ht : -9223372036854775808 ≤ times ∧ times ≤ 9223372036854775807) :
    Calls Try.prog 8 #[v, .int .i64 a, .int .i64 times] w fun e w' => e = .returned (.bool true) ∧ Below w.heap.size w w' := by
  obtain ⟨aS1, aH1, aF1, aL1, cS1, cH1, cF1, cL1, rfl, A, -⟩ := A
  have HA : Hid _ := A
  have HA0 : Hid (Ans 0 (w.alloc (.cells #[.slice aS1 M.slots.length cS1, .slice aH1 M.heads.length cH1, .slice aF1 M.free.length cF1, .slice aL1 M.locks.length cL1, .int .i64 M.now] 29)) (.agg #[.slice aS1 M.slots.length cS1, .slice aH1 M.heads.length cH1, .slice aF1 M.free.length cF1, .slice aL1 M.locks.length cL1, .int .i64 M.now]) M) := Ans.below ⟨aS1, aH1, aF1, aL1, cS1, cH1, cF1, cL1, rfl, A, ⟨fun _ _ => Nat.zero_le _, fun _ _ => Nat.zero_le _, fun _ _ => Nat.zero_le _, fun _ _ => Nat.zero_le _⟩⟩ (one_below _ _)
  have HB0 : Hid ((w.alloc (.cells #[.slice aS1 M.slots.length cS1, .slice aH1 M.heads.length cH1, .slice aF1 M.free.length cF1, .slice aL1 M.locks.length cL1, .int .i64 M.now] 29)).heap[w.heap.size]? = some (.cells #[.slice aS1 M.slots.length cS1, .slice aH1 M.heads.length cH1, .slice aF1 M.free.length cF1, .slice aL1 M.locks.length cL1, .int .i64 M.now] 29)) := heap_alloc_new _ _
  have b0 := one_below w (.cells #[.slice aS1 M.slots.length cS1, .slice aH1 M.heads.length cH1, .slice aF1 M.free.length cF1, .slice aL1 M.locks.length cL1, .int .i64 M.now] 29)
  have m1 := A.s.max; have m3 := A.f.max
  clear A
  go_enter Try.func8, Try.ntmps8
  go_wp2_with fail
  generalize w.alloc (.cells #[.slice aS1 M.slots.length cS1, .slice aH1 M.heads.length cH1, .slice aF1 M.free.length cF1, .slice aL1 M.locks.length cL1, .int .i64 M.now] 29) = W0 at *
  generalize hME : heldE M a = E1
  generalize hMM : heldM M a = M1
  refine (held_at hMM hME _ W0 0 HA0.out).mono ?_
  rintro e w1 ⟨v1, rfl, ⟨aS2, aH2, aF2, aL2, cS2, cH2, cF2, cL2, rfl, A1, hi1⟩, hb1⟩
  have HME : Hid _ := hME
  have HMM : Hid _ := hMM
  clear hME hMM
  have b1 := b0.trans (hb1.mono b0.size)
  have HI1 : Hid (Oft w (w1.alloc (.cells #[.slice aS2 M1.slots.length cS2, .slice aH2 M1.heads.length cH2, .slice aF2 M1.free.length cF2, .slice aL2 M1.locks.length cL2, .int .i64 M1.now] 29)) w1.heap.size (.cells #[.slice aS1 M.slots.length cS1, .slice aH1 M.heads.length cH1, .slice aF1 M.free.length cF1, .slice aL1 M.locks.length cL1, .int .i64 M.now] 29) M1) :=
    ⟨Nat.lt_of_lt_of_le (lt_of_block HB0.out) hb1.size, (Below.heap_alloc _ _ _ (Nat.lt_of_lt_of_le (lt_of_block HB0.out) hb1.size)).trans ((hb1.block w.heap.size (lt_of_block HB0.out)).trans HB0.out), ⟨aS2, aH2, aF2, aL2, cS2, cH2, cF2, cL2, heap_alloc_new _ _, A1.below (one_below _ _)⟩, b1.alloc b1.size _⟩
  clear A1 hi1 hb1 b0 HB0 HA0 b1
  go_wp2_with fail
  generalize hX : w1.heap.size = X at *
  generalize w1.alloc (.cells #[.slice aS2 M1.slots.length cS2, .slice aH2 M1.heads.length cH2, .slice aF2 M1.free.length cF2, .slice aL2 M1.locks.length cL2, .int .i64 M1.now] 29) = W1 at *
  clear hX
  refine (filled_any W1).mono ?_
  rintro e w2 ⟨rfl, hb2⟩
  have HI2 : Hid _ := HI1.out.keep hb2
  clear HI1 hb2
  by_cases hE : E1 = 0
  rotate_left
  · have h' : (E1 != 0) = true := by simpa using hE
    go_wp2_with (go_at_call 14; refine (filled_any _).mono ?_; rintro e w3 ⟨rfl, hb3⟩)
    go_ret
    exact ⟨rfl, HI2.out.below.trans (hb3.mono HI2.out.below.size)⟩
  subst hE
  obtain ⟨ok, hs, hr0, hr1, hM1⟩ := held_first HME.out
  obtain ⟨ja, rfl, hja⟩ := (isSl_iff M a).1 hs
  have HOK : Hid _ := ok
  have HS : Hid _ := hs
  generalize hr : refsM M ja = r at *
  have HR : Hid (refsM M ja = r) := hr
  have HR0 : Hid (0 < refsM M ja) := by show 0 < _; rw [hr]; exact hr0
  have HRj : Hid (M.slots[ja].refs = r) := (refs_lt hja).symm.trans hr
  have hM1' : M1 = withRefs M ja (r + 1) := HMM.out.symm.trans hM1
  subst hM1'
  clear hM1 HMM HME ok hs hr
  go_wp2_with fail
  refine (at_any times w2 ht.1 ht.2).mono ?_
  rintro e w2' ⟨T, hT, rfl, rfl⟩
  go_wp2
  go_loopw [29, 9] (fun i n wr => ∃ j q : Nat, j ≤ T ∧ 1 ≤ q ∧ q ≤ j + 1 ∧ r + (q : Int) ≤ 1000 ∧ i = .int .i64 j ∧ n = .int .i64 q ∧ Oft w wr X (.cells #[.slice aS1 M.slots.length cS1, .slice aH1 M.heads.length cH1, .slice aF1 M.free.length cF1, .slice aL1 M.locks.length cL1, .int .i64 M.now] 29) (withRefs M ja (r + (q : Int))))
    (fun i _ _ => T - (intOf i).toNat)
  case atStart => exact ⟨0, 1, Nat.zero_le _, Nat.le_refl _, Nat.le_refl _, by omega, rfl, rfl, HI2.out⟩
  case round =>
    obtain ⟨j, q, hj, hq1, hqj, hrq, rfl, rfl, I⟩ := hrel
    have HI : Hid _ := I
    clear I HI2
    obtain ⟨aS4, aH4, aF4, aL4, cS4, cH4, cF4, cL4, hX4, A4⟩ := HI.out.ans
    have HX4 : Hid _ := hX4
    have HA4 : Hid _ := A4
    clear hX4 A4
    have HLx : Hid ((withRefs M ja (r + (q : Int))).slots.length = M.slots.length) := with_len _ _ _
    have HCx : Hid (∀ (ad : Addr) (wx : World), (∀ i (h : i < (withRefs M ja (r + (q : Int))).slots.length), wx.cell? ⟨ad.block, ad.off + i * 6, none⟩ = some (.int .i64 (withRefs M ja (r + (q : Int))).slots[i].refs)) → wx.cell? ⟨ad.block, ad.off + ja * 6, none⟩ = some (.int .i64 (r + (q : Int)))) := fun ad wx h => with_cell hja rfl h
    obtain ⟨q0, q1, q2, q3, q4, f0, f1, f2, f3, f4, qs⟩ := boxf HX4.out
    by_cases hlt : j < T
    · by_cases hfull : r + (q : Int) = 1000
      · have hm := held_full HOK.out HS.out HR0.out
        rw [← hfull] at hm
        have HM : Hid _ := hm
        clear hm
        have HF : Hid _ := hfull
        clear hfull
        generalize hMh : heldM (withRefs M ja (r + (q : Int))) ja = Mh
        go_wp2_with fail
        refine (held_at hMh HM.out _ wr 0 HA4.out).mono ?_
        rintro e w5 ⟨v5, rfl, ⟨aS5, aH5, aF5, aL5, cS5, cH5, cF5, cL5, rfl, A5, hi5⟩, hb5⟩
        clear hMh
        have HJ : Hid _ := (HI.out.keep hb5).keep (one_below _ (.cells #[.slice aS5 Mh.slots.length cS5, .slice aH5 Mh.heads.length cH5, .slice aF5 Mh.free.length cF5, .slice aL5 Mh.locks.length cL5, .int .i64 Mh.now] 29))
        clear q0 q1 q2 q3 q4 f0 f1 f2 f3 f4 qs A5 hi5 hb5 HI HX4 HA4
        go_wp2_with fail
        generalize w5.alloc (.cells #[.slice aS5 Mh.slots.length cS5, .slice aH5 Mh.heads.length cH5, .slice aF5 Mh.free.length cF5, .slice aL5 Mh.locks.length cL5, .int .i64 Mh.now] 29) = wz at *
        obtain ⟨aS3, aH3, aF3, aL3, cS3, cH3, cF3, cL3, hX3, A3⟩ := HJ.out.ex
        have HX3 : Hid _ := hX3
        have HA3 : Hid _ := A3
        clear hX3 A3
        obtain ⟨q0, q1, q2, q3, q4, f0, f1, f2, f3, f4, qs⟩ := boxf HJ.out.box
        obtain ⟨r0, r1, r2, r3, r4, g0, g1, g2, g3, g4, rs⟩ := boxf HX3.out
        have HM3 : Hid _ := HA.out.below HJ.out.below
        rcases HM3.out.s.at_ with h0 | ⟨bm, om, rfl, hcm⟩
        · omega
        rcases HA3.out.s.at_ with h0 | ⟨bx, ox, rfl, hcx⟩
        · have := HLx.out; omega
        have cm := (hcm ja hja).1
        have cx : wz.cell? ⟨bx, ox + ja * 6, none⟩ = some (.int .i64 (r + (q : Int))) := HCx.out ⟨bx, ox, none⟩ wz (fun i h => (hcx i h).1)
        rw [show M.slots[ja].refs = r from HRj.out] at cm
        clear hcm hcx
        have jx : (ja : Int) < ((withRefs M ja (r + (q : Int))).slots.length : Int) := by rw [HLx.out]; omega
        have jm : (ja : Int) < (M.slots.length : Int) := by omega
        have jx' : ja < (withRefs M ja (r + (q : Int))).slots.length := by rw [HLx.out]; exact hja
        go_quiet (fail)
        go_wp2
        have HJ2 : Hid _ := HJ.out.keep (drewN_below wz nq)
        clear HJ HX3 HA3 HM3 q0 q1 q2 q3 q4 f0 f1 f2 f3 f4 qs r0 r1 r2 r3 r4 g0 g1 g2 g3 g4 rs cx cm
        go_loopw [59] (fun i wr => ∃ j : Nat, j ≤ q ∧ i = .int .i64 j ∧ Oft w wr X (.cells #[.slice (some ⟨bm, om, none⟩) M.slots.length cS1, .slice aH1 M.heads.length cH1, .slice aF1 M.free.length cF1, .slice aL1 M.locks.length cL1, .int .i64 M.now] 29) (withRefs M ja (r + (q : Int) - (j : Int)))) (fun i _ => q - (intOf i).toNat)
        case atStart => exact ⟨0, Nat.zero_le _, rfl, by rw [show r + (q : Int) - ((0 : Nat) : Int) = r + (q : Int) by omega]; exact HJ2.out⟩
        case round =>
          obtain ⟨j2, hj2, rfl, I2⟩ := hrel
          have HI2 : Hid _ := I2
          clear I2 HJ2
          obtain ⟨aS6, aH6, aF6, aL6, cS6, cH6, cF6, cL6, hX6, A6⟩ := HI2.out.ans
          have HX6 : Hid _ := hX6
          have HA6 : Hid _ := A6
          clear hX6 A6
          obtain ⟨q0, q1, q2, q3, q4, f0, f1, f2, f3, f4, qs⟩ := boxf HX6.out
          by_cases hlt2 : j2 < q
          · have hm := let_less HOK.out HS.out HR0.out (r := r + (q : Int) - (j2 : Int)) (by omega) (by omega)
            have HM : Hid _ := hm
            clear hm
            go_wp2_with fail
            refine (let_at HM.out.2 HM.out.1 _ wr 0 HA6.out).mono ?_
            rintro e w7 ⟨v7, rfl, ⟨aS7, aH7, aF7, aL7, cS7, cH7, cF7, cL7, rfl, A7, hi7⟩, hb7⟩
            have HI7 : Hid _ := HI2.out.store hb7 A7 hi7
            have k7 := (hb7.block X (lt_of_block HX6.out)).trans HX6.out
            clear q0 q1 q2 q3 q4 f0 f1 f2 f3 f4 qs A7 hi7 hb7
            obtain ⟨q0, q1, q2, q3, q4, f0, f1, f2, f3, f4, qs⟩ := boxf k7
            clear k7
            go_wp2
            go_roundw
            case rel => exact ⟨j2 + 1, by omega, by go_num, by rw [show r + (q : Int) - ((j2 + 1 : Nat) : Int) = r + (q : Int) - (j2 : Int) - 1 by omega]; exact HI7.out⟩
            case measure => simp [intOf]; omega
          · obtain rfl : j2 = q := by omega
            have hback : withRefs M ja (r + (j2 : Int) - (j2 : Int)) = M := by
              rw [show r + (j2 : Int) - (j2 : Int) = r by omega, ← HR.out]
              exact withRefs_self HS.out
            rw [hback] at HI2 HA6 HX6 q0 q1 q2 q3 q4
            clear hback
            clear f0 f1 f2 f3 f4 qs
            obtain ⟨p0, p1, p2, p3, p4, -, -, -, -, -, ps⟩ := boxf HI2.out.box
            have HMm : Hid (Ans 0 wr (.agg #[.slice (some ⟨bm, om, none⟩) M.slots.length cS1, .slice aH1 M.heads.length cH1, .slice aF1 M.free.length cF1, .slice aL1 M.locks.length cL1, .int .i64 M.now]) M) := ⟨some ⟨bm, om, none⟩, aH1, aF1, aL1, cS1, cH1, cF1, cL1, rfl, HA.out.below HI2.out.below, ⟨fun _ _ => Nat.zero_le _, fun _ _ => Nat.zero_le _, fun _ _ => Nat.zero_le _, fun _ _ => Nat.zero_le _⟩⟩
            go_wp2_with fail
            refine (same_any M M _ _ wr 0 0 HA6.out HMm.out).mono ?_
            rw [(eqM_iff M M).2 rfl]
            rintro e w8 ⟨rfl, hb8⟩
            have HI8 : Hid _ := HI2.out.keep hb8
            clear HI2 HA6 HX6 HMm hb8 q0 q1 q2 q3 q4 p0 p1 p2 p3 p4 ps
            obtain ⟨p0, p1, p2, p3, p4, -, -, -, -, -, ps⟩ := boxf HI8.out.box
            have cm : w8.cell? ⟨bm, om + ja * 6, none⟩ = some (.int .i64 r) := by
              have hs8 := (HA.out.below HI8.out.below).s.at_
              rcases hs8 with h0 | ⟨_, _, e, hc⟩
              · omega
              · cases e
                have := (hc ja hja).1
                rwa [HRj.out] at this
            obtain ⟨rn, hrn⟩ : ∃ rn : Nat, r = rn := ⟨r.toNat, by omega⟩
            subst hrn
            go_wp2
            have HI9 : Hid (Oft w w8 X (.cells #[.slice (some ⟨bm, om, none⟩) M.slots.length cS1, .slice aH1 M.heads.length cH1, .slice aF1 M.free.length cF1, .slice aL1 M.locks.length cL1, .int .i64 M.now] 29) (withRefs M ja ((rn : Int) - ((0 : Nat) : Int)))) := by
              rw [show (rn : Int) - ((0 : Nat) : Int) = rn by omega]
              have e : withRefs M ja (rn : Int) = M := by rw [← HR.out]; exact withRefs_self HS.out
              rw [e]; exact HI8.out
            clear HI8 p0 p1 p2 p3 p4 ps cm
            go_loopw [80] (fun i wr => ∃ j : Nat, j ≤ rn ∧ i = .int .i64 j ∧ ((j < rn ∧ Oft w wr X (.cells #[.slice (some ⟨bm, om, none⟩) M.slots.length cS1, .slice aH1 M.heads.length cH1, .slice aF1 M.free.length cF1, .slice aL1 M.locks.length cL1, .int .i64 M.now] 29) (withRefs M ja ((rn : Int) - (j : Int)))) ∨ (j = rn ∧ Oft w wr X (.cells #[.slice (some ⟨bm, om, none⟩) M.slots.length cS1, .slice aH1 M.heads.length cH1, .slice aF1 M.free.length cF1, .slice aL1 M.locks.length cL1, .int .i64 M.now] 29) (freed M ja)))) (fun i _ => rn - (intOf i).toNat)
            case atStart => exact ⟨0, Nat.zero_le _, rfl, .inl ⟨by omega, HI9.out⟩⟩
            case round =>
              obtain ⟨j3, hj3, rfl, hI⟩ := hrel
              clear HI9
              rcases hI with ⟨hlt3, I3⟩ | ⟨rfl, I3⟩
              · have HI3 : Hid _ := I3
                clear I3
                obtain ⟨aS6, aH6, aF6, aL6, cS6, cH6, cF6, cL6, hX6, A6⟩ := HI3.out.ans
                have HX6 : Hid _ := hX6
                have HA6 : Hid _ := A6
                clear hX6 A6
                obtain ⟨q0, q1, q2, q3, q4, f0, f1, f2, f3, f4, qs⟩ := boxf HX6.out
                by_cases hl : j3 + 1 < rn
                · have hm := let_less HOK.out HS.out HR0.out (r := (rn : Int) - (j3 : Int)) (by omega) (by omega)
                  have HM : Hid _ := hm
                  clear hm
                  go_wp2_with fail
                  refine (let_at HM.out.2 HM.out.1 _ wr 0 HA6.out).mono ?_
                  rintro e w7 ⟨v7, rfl, ⟨aS7, aH7, aF7, aL7, cS7, cH7, cF7, cL7, rfl, A7, hi7⟩, hb7⟩
                  have HI7 : Hid _ := HI3.out.store hb7 A7 hi7
                  have k7 := (hb7.block X (lt_of_block HX6.out)).trans HX6.out
                  clear q0 q1 q2 q3 q4 f0 f1 f2 f3 f4 qs A7 hi7 hb7
                  obtain ⟨q0, q1, q2, q3, q4, f0, f1, f2, f3, f4, qs⟩ := boxf k7
                  clear k7
                  go_wp2
                  go_roundw
                  case rel => exact ⟨j3 + 1, by omega, by go_num, .inl ⟨by omega, by rw [show (rn : Int) - ((j3 + 1 : Nat) : Int) = (rn : Int) - (j3 : Int) - 1 by omega]; exact HI7.out⟩⟩
                  case measure => simp [intOf]; omega
                · have e1 : (rn : Int) - (j3 : Int) = 1 := by omega
                  rw [e1] at HI3 HA6 HX6 q0 q1 q2 q3 q4
                  clear e1
                  have hm := let_last HOK.out HS.out HR0.out
                  have HM : Hid _ := hm
                  clear hm
                  go_wp2_with fail
                  refine (let_at HM.out.2 HM.out.1 _ wr 0 HA6.out).mono ?_
                  rintro e w7 ⟨v7, rfl, ⟨aS7, aH7, aF7, aL7, cS7, cH7, cF7, cL7, rfl, A7, hi7⟩, hb7⟩
                  have HI7 : Hid _ := HI3.out.store hb7 A7 hi7
                  have k7 := (hb7.block X (lt_of_block HX6.out)).trans HX6.out
                  clear q0 q1 q2 q3 q4 f0 f1 f2 f3 f4 qs A7 hi7 hb7
                  obtain ⟨q0, q1, q2, q3, q4, f0, f1, f2, f3, f4, qs⟩ := boxf k7
                  clear k7
                  go_wp2
                  go_roundw
                  case rel => exact ⟨j3 + 1, by omega, by go_num, .inr ⟨by omega, HI7.out⟩⟩
                  case measure => simp [intOf]; omega
              · have HI3 : Hid _ := I3
                clear I3
                obtain ⟨aS6, aH6, aF6, aL6, cS6, cH6, cF6, cL6, hX6, A6⟩ := HI3.out.ans
                have HX6 : Hid _ := hX6
                have HA6 : Hid _ := A6
                clear hX6 A6
                have hfr := freed_ok HOK.out HS.out HR0.out
                have HFR : Hid _ := hfr
                clear hfr
                obtain ⟨q0, q1, q2, q3, q4, f0, f1, f2, f3, f4, qs⟩ := boxf HX6.out
                go_wp2_with fail
                refine (held_at rfl HFR.out.1 _ wr 0 HA6.out).mono ?_
                rintro e w7 ⟨v7, rfl, ⟨aS7, aH7, aF7, aL7, cS7, cH7, cF7, cL7, rfl, A7, hi7⟩, hb7⟩
                have HI7 : Hid _ := HI3.out.keep hb7
                have HA7 : Hid (Ans 0 w7 (.agg #[.slice aS6 (freed M ja).slots.length cS6, .slice aH6 (freed M ja).heads.length cH6, .slice aF6 (freed M ja).free.length cF6, .slice aL6 (freed M ja).locks.length cL6, .int .i64 (freed M ja).now]) (freed M ja)) := Ans.below HA6.out hb7
                have HX7 : Hid _ := (hb7.block X (lt_of_block HX6.out)).trans HX6.out
                clear q0 q1 q2 q3 q4 f0 f1 f2 f3 f4 qs A7 hi7 hb7 HI3 HA6 HX6
                obtain ⟨q0, q1, q2, q3, q4, f0, f1, f2, f3, f4, qs⟩ := boxf HX7.out
                generalize heldM (freed M ja) ja = Mh at *
                go_wp2_with fail
                refine (let_at rfl HFR.out.2.1 _ w7 0 HA7.out).mono ?_
                rintro e w8' ⟨v8, rfl, ⟨aS8, aH8, aF8, aL8, cS8, cH8, cF8, cL8, rfl, A8, hi8⟩, hb8⟩
                have HI8 : Hid _ := HI7.out.keep hb8
                have HA8 : Hid (Ans 0 w8' (.agg #[.slice aS6 (freed M ja).slots.length cS6, .slice aH6 (freed M ja).heads.length cH6, .slice aF6 (freed M ja).free.length cF6, .slice aL6 (freed M ja).locks.length cL6, .int .i64 (freed M ja).now]) (freed M ja)) := Ans.below HA7.out hb8
                have HX8 : Hid _ := (hb8.block X (lt_of_block HX7.out)).trans HX7.out
                clear q0 q1 q2 q3 q4 f0 f1 f2 f3 f4 qs A8 hi8 hb8 HI7 HA7 HX7
                generalize letM (freed M ja) ja = Ml at *
                obtain ⟨q0, q1, q2, q3, q4, f0, f1, f2, f3, f4, qs⟩ := boxf HX8.out
                obtain ⟨p0, p1, p2, p3, p4, -, -, -, -, -, ps⟩ := boxf HI8.out.box
                have hfl : (freed M ja).free.length = M.free.length + 1 := by rw [HFR.out.2.2]; simp
                have fx := freed_row HA8.out HFR.out.2.2
                obtain ⟨bf, of, rfl, cf⟩ := fx
                have cfl := cell_lt cf
                have nF : M.free.length ≤ 17592186044416 := by omega
                go_wp2
                go_ret
                exact ⟨rfl, HI8.out.below.alloc HI8.out.below.size _⟩
      · have hm := held_more HOK.out HS.out HR0.out (r := r + (q : Int)) (by omega) (by omega)
        have HM : Hid _ := hm
        clear hm
        go_wp2_with fail
        refine (held_at HM.out.2 HM.out.1 _ wr 0 HA4.out).mono ?_
        rintro e w5 ⟨v5, rfl, ⟨aS5, aH5, aF5, aL5, cS5, cH5, cF5, cL5, rfl, A5, hi5⟩, hb5⟩
        have HI5 : Hid _ := (HI.out.store hb5 A5 hi5).keep (one_below _ (.cells #[.slice aS5 (withRefs M ja (r + (q : Int) + 1)).slots.length cS5, .slice aH5 (withRefs M ja (r + (q : Int) + 1)).heads.length cH5, .slice aF5 (withRefs M ja (r + (q : Int) + 1)).free.length cF5, .slice aL5 (withRefs M ja (r + (q : Int) + 1)).locks.length cL5, .int .i64 (withRefs M ja (r + (q : Int) + 1)).now] 29))
        have k5 := (hb5.block X (lt_of_block HX4.out)).trans HX4.out
        clear q0 q1 q2 q3 q4 f0 f1 f2 f3 f4 qs A5 hi5 hb5
        obtain ⟨q0, q1, q2, q3, q4, f0, f1, f2, f3, f4, qs⟩ := boxf k5
        clear k5
        go_wp2
        go_roundw
        case rel => exact ⟨j + 1, q + 1, by omega, by omega, by omega, by omega, by go_num, by go_num, by rw [show r + ((q + 1 : Nat) : Int) = r + (q : Int) + 1 by omega]; exact HI5.out⟩
        case measure => simp [intOf]; omega
    · go_wp2_with fail
      have HJ : Hid _ := HI.out
      clear q0 q1 q2 q3 q4 f0 f1 f2 f3 f4 qs HI HX4 HA4
      generalize wr = wz at *
      obtain ⟨aS3, aH3, aF3, aL3, cS3, cH3, cF3, cL3, hX3, A3⟩ := HJ.out.ex
      have HX3 : Hid _ := hX3
      have HA3 : Hid _ := A3
      clear hX3 A3
      obtain ⟨q0, q1, q2, q3, q4, f0, f1, f2, f3, f4, qs⟩ := boxf HJ.out.box
      obtain ⟨r0, r1, r2, r3, r4, g0, g1, g2, g3, g4, rs⟩ := boxf HX3.out
      have HM3 : Hid _ := HA.out.below HJ.out.below
      rcases HM3.out.s.at_ with h0 | ⟨bm, om, rfl, hcm⟩
      · omega
      rcases HA3.out.s.at_ with h0 | ⟨bx, ox, rfl, hcx⟩
      · have := HLx.out; omega
      have cm := (hcm ja hja).1
      have cx : wz.cell? ⟨bx, ox + ja * 6, none⟩ = some (.int .i64 (r + (q : Int))) := HCx.out ⟨bx, ox, none⟩ wz (fun i h => (hcx i h).1)
      rw [show M.slots[ja].refs = r from HRj.out] at cm
      clear hcm hcx
      have jx : (ja : Int) < ((withRefs M ja (r + (q : Int))).slots.length : Int) := by rw [HLx.out]; omega
      have jm : (ja : Int) < (M.slots.length : Int) := by omega
      have jx' : ja < (withRefs M ja (r + (q : Int))).slots.length := by rw [HLx.out]; exact hja
      go_quiet (fail)
      go_wp2
      have HJ2 : Hid _ := HJ.out.keep (drewN_below wz nq)
      clear HJ HX3 HA3 HM3 q0 q1 q2 q3 q4 f0 f1 f2 f3 f4 qs r0 r1 r2 r3 r4 g0 g1 g2 g3 g4 rs cx cm
      go_loopw [59] (fun i wr => ∃ j : Nat, j ≤ q ∧ i = .int .i64 j ∧ Oft w wr X (.cells #[.slice (some ⟨bm, om, none⟩) M.slots.length cS1, .slice aH1 M.heads.length cH1, .slice aF1 M.free.length cF1, .slice aL1 M.locks.length cL1, .int .i64 M.now] 29) (withRefs M ja (r + (q : Int) - (j : Int)))) (fun i _ => q - (intOf i).toNat)
      case atStart => exact ⟨0, Nat.zero_le _, rfl, by rw [show r + (q : Int) - ((0 : Nat) : Int) = r + (q : Int) by omega]; exact HJ2.out⟩
      case round =>
        obtain ⟨j2, hj2, rfl, I2⟩ := hrel
        have HI2 : Hid _ := I2
        clear I2 HJ2
        obtain ⟨aS6, aH6, aF6, aL6, cS6, cH6, cF6, cL6, hX6, A6⟩ := HI2.out.ans
        have HX6 : Hid _ := hX6
        have HA6 : Hid _ := A6
        clear hX6 A6
        obtain ⟨q0, q1, q2, q3, q4, f0, f1, f2, f3, f4, qs⟩ := boxf HX6.out
        by_cases hlt2 : j2 < q
        · have hm := let_less HOK.out HS.out HR0.out (r := r + (q : Int) - (j2 : Int)) (by omega) (by omega)
          have HM : Hid _ := hm
          clear hm
          go_wp2_with fail
          refine (let_at HM.out.2 HM.out.1 _ wr 0 HA6.out).mono ?_
          rintro e w7 ⟨v7, rfl, ⟨aS7, aH7, aF7, aL7, cS7, cH7, cF7, cL7, rfl, A7, hi7⟩, hb7⟩
          have HI7 : Hid _ := HI2.out.store hb7 A7 hi7
          have k7 := (hb7.block X (lt_of_block HX6.out)).trans HX6.out
          clear q0 q1 q2 q3 q4 f0 f1 f2 f3 f4 qs A7 hi7 hb7
          obtain ⟨q0, q1, q2, q3, q4, f0, f1, f2, f3, f4, qs⟩ := boxf k7
          clear k7
          go_wp2
          go_roundw
          case rel => exact ⟨j2 + 1, by omega, by go_num, by rw [show r + (q : Int) - ((j2 + 1 : Nat) : Int) = r + (q : Int) - (j2 : Int) - 1 by omega]; exact HI7.out⟩
          case measure => simp [intOf]; omega
        · obtain rfl : j2 = q := by omega
          have hback : withRefs M ja (r + (j2 : Int) - (j2 : Int)) = M := by
            rw [show r + (j2 : Int) - (j2 : Int) = r by omega, ← HR.out]
            exact withRefs_self HS.out
          rw [hback] at HI2 HA6 HX6 q0 q1 q2 q3 q4
          clear hback
          clear f0 f1 f2 f3 f4 qs
          obtain ⟨p0, p1, p2, p3, p4, -, -, -, -, -, ps⟩ := boxf HI2.out.box
          have HMm : Hid (Ans 0 wr (.agg #[.slice (some ⟨bm, om, none⟩) M.slots.length cS1, .slice aH1 M.heads.length cH1, .slice aF1 M.free.length cF1, .slice aL1 M.locks.length cL1, .int .i64 M.now]) M) := ⟨some ⟨bm, om, none⟩, aH1, aF1, aL1, cS1, cH1, cF1, cL1, rfl, HA.out.below HI2.out.below, ⟨fun _ _ => Nat.zero_le _, fun _ _ => Nat.zero_le _, fun _ _ => Nat.zero_le _, fun _ _ => Nat.zero_le _⟩⟩
          go_wp2_with fail
          refine (same_any M M _ _ wr 0 0 HA6.out HMm.out).mono ?_
          rw [(eqM_iff M M).2 rfl]
          rintro e w8 ⟨rfl, hb8⟩
          have HI8 : Hid _ := HI2.out.keep hb8
          clear HI2 HA6 HX6 HMm hb8 q0 q1 q2 q3 q4 p0 p1 p2 p3 p4 ps
          obtain ⟨p0, p1, p2, p3, p4, -, -, -, -, -, ps⟩ := boxf HI8.out.box
          have cm : w8.cell? ⟨bm, om + ja * 6, none⟩ = some (.int .i64 r) := by
            have hs8 := (HA.out.below HI8.out.below).s.at_
            rcases hs8 with h0 | ⟨_, _, e, hc⟩
            · omega
            · cases e
              have := (hc ja hja).1
              rwa [HRj.out] at this
          obtain ⟨rn, hrn⟩ : ∃ rn : Nat, r = rn := ⟨r.toNat, by omega⟩
          subst hrn
          go_wp2
          have HI9 : Hid (Oft w w8 X (.cells #[.slice (some ⟨bm, om, none⟩) M.slots.length cS1, .slice aH1 M.heads.length cH1, .slice aF1 M.free.length cF1, .slice aL1 M.locks.length cL1, .int .i64 M.now] 29) (withRefs M ja ((rn : Int) - ((0 : Nat) : Int)))) := by
            rw [show (rn : Int) - ((0 : Nat) : Int) = rn by omega]
            have e : withRefs M ja (rn : Int) = M := by rw [← HR.out]; exact withRefs_self HS.out
            rw [e]; exact HI8.out
          clear HI8 p0 p1 p2 p3 p4 ps cm
          go_loopw [80] (fun i wr => ∃ j : Nat, j ≤ rn ∧ i = .int .i64 j ∧ ((j < rn ∧ Oft w wr X (.cells #[.slice (some ⟨bm, om, none⟩) M.slots.length cS1, .slice aH1 M.heads.length cH1, .slice aF1 M.free.length cF1, .slice aL1 M.locks.length cL1, .int .i64 M.now] 29) (withRefs M ja ((rn : Int) - (j : Int)))) ∨ (j = rn ∧ Oft w wr X (.cells #[.slice (some ⟨bm, om, none⟩) M.slots.length cS1, .slice aH1 M.heads.length cH1, .slice aF1 M.free.length cF1, .slice aL1 M.locks.length cL1, .int .i64 M.now] 29) (freed M ja)))) (fun i _ => rn - (intOf i).toNat)
          case atStart => exact ⟨0, Nat.zero_le _, rfl, .inl ⟨by omega, HI9.out⟩⟩
          case round =>
            obtain ⟨j3, hj3, rfl, hI⟩ := hrel
            clear HI9
            rcases hI with ⟨hlt3, I3⟩ | ⟨rfl, I3⟩
            · have HI3 : Hid _ := I3
              clear I3
              obtain ⟨aS6, aH6, aF6, aL6, cS6, cH6, cF6, cL6, hX6, A6⟩ := HI3.out.ans
              have HX6 : Hid _ := hX6
              have HA6 : Hid _ := A6
              clear hX6 A6
              obtain ⟨q0, q1, q2, q3, q4, f0, f1, f2, f3, f4, qs⟩ := boxf HX6.out
              by_cases hl : j3 + 1 < rn
              · have hm := let_less HOK.out HS.out HR0.out (r := (rn : Int) - (j3 : Int)) (by omega) (by omega)
                have HM : Hid _ := hm
                clear hm
                go_wp2_with fail
                refine (let_at HM.out.2 HM.out.1 _ wr 0 HA6.out).mono ?_
                rintro e w7 ⟨v7, rfl, ⟨aS7, aH7, aF7, aL7, cS7, cH7, cF7, cL7, rfl, A7, hi7⟩, hb7⟩
                have HI7 : Hid _ := HI3.out.store hb7 A7 hi7
                have k7 := (hb7.block X (lt_of_block HX6.out)).trans HX6.out
                clear q0 q1 q2 q3 q4 f0 f1 f2 f3 f4 qs A7 hi7 hb7
                obtain ⟨q0, q1, q2, q3, q4, f0, f1, f2, f3, f4, qs⟩ := boxf k7
                clear k7
                go_wp2
                go_roundw
                case rel => exact ⟨j3 + 1, by omega, by go_num, .inl ⟨by omega, by rw [show (rn : Int) - ((j3 + 1 : Nat) : Int) = (rn : Int) - (j3 : Int) - 1 by omega]; exact HI7.out⟩⟩
                case measure => simp [intOf]; omega
              · have e1 : (rn : Int) - (j3 : Int) = 1 := by omega
                rw [e1] at HI3 HA6 HX6 q0 q1 q2 q3 q4
                clear e1
                have hm := let_last HOK.out HS.out HR0.out
                have HM : Hid _ := hm
                clear hm
                go_wp2_with fail
                refine (let_at HM.out.2 HM.out.1 _ wr 0 HA6.out).mono ?_
                rintro e w7 ⟨v7, rfl, ⟨aS7, aH7, aF7, aL7, cS7, cH7, cF7, cL7, rfl, A7, hi7⟩, hb7⟩
                have HI7 : Hid _ := HI3.out.store hb7 A7 hi7
                have k7 := (hb7.block X (lt_of_block HX6.out)).trans HX6.out
                clear q0 q1 q2 q3 q4 f0 f1 f2 f3 f4 qs A7 hi7 hb7
                obtain ⟨q0, q1, q2, q3, q4, f0, f1, f2, f3, f4, qs⟩ := boxf k7
                clear k7
                go_wp2
                go_roundw
                case rel => exact ⟨j3 + 1, by omega, by go_num, .inr ⟨by omega, HI7.out⟩⟩
                case measure => simp [intOf]; omega
            · have HI3 : Hid _ := I3
              clear I3
              obtain ⟨aS6, aH6, aF6, aL6, cS6, cH6, cF6, cL6, hX6, A6⟩ := HI3.out.ans
              have HX6 : Hid _ := hX6
              have HA6 : Hid _ := A6
              clear hX6 A6
              have hfr := freed_ok HOK.out HS.out HR0.out
              have HFR : Hid _ := hfr
              clear hfr
              obtain ⟨q0, q1, q2, q3, q4, f0, f1, f2, f3, f4, qs⟩ := boxf HX6.out
              go_wp2_with fail
              refine (held_at rfl HFR.out.1 _ wr 0 HA6.out).mono ?_
              rintro e w7 ⟨v7, rfl, ⟨aS7, aH7, aF7, aL7, cS7, cH7, cF7, cL7, rfl, A7, hi7⟩, hb7⟩
              have HI7 : Hid _ := HI3.out.keep hb7
              have HA7 : Hid (Ans 0 w7 (.agg #[.slice aS6 (freed M ja).slots.length cS6, .slice aH6 (freed M ja).heads.length cH6, .slice aF6 (freed M ja).free.length cF6, .slice aL6 (freed M ja).locks.length cL6, .int .i64 (freed M ja).now]) (freed M ja)) := Ans.below HA6.out hb7
              have HX7 : Hid _ := (hb7.block X (lt_of_block HX6.out)).trans HX6.out
              clear q0 q1 q2 q3 q4 f0 f1 f2 f3 f4 qs A7 hi7 hb7 HI3 HA6 HX6
              obtain ⟨q0, q1, q2, q3, q4, f0, f1, f2, f3, f4, qs⟩ := boxf HX7.out
              generalize heldM (freed M ja) ja = Mh at *
              go_wp2_with fail
              refine (let_at rfl HFR.out.2.1 _ w7 0 HA7.out).mono ?_
              rintro e w8' ⟨v8, rfl, ⟨aS8, aH8, aF8, aL8, cS8, cH8, cF8, cL8, rfl, A8, hi8⟩, hb8⟩
              have HI8 : Hid _ := HI7.out.keep hb8
              have HA8 : Hid (Ans 0 w8' (.agg #[.slice aS6 (freed M ja).slots.length cS6, .slice aH6 (freed M ja).heads.length cH6, .slice aF6 (freed M ja).free.length cF6, .slice aL6 (freed M ja).locks.length cL6, .int .i64 (freed M ja).now]) (freed M ja)) := Ans.below HA7.out hb8
              have HX8 : Hid _ := (hb8.block X (lt_of_block HX7.out)).trans HX7.out
              clear q0 q1 q2 q3 q4 f0 f1 f2 f3 f4 qs A8 hi8 hb8 HI7 HA7 HX7
              generalize letM (freed M ja) ja = Ml at *
              obtain ⟨q0, q1, q2, q3, q4, f0, f1, f2, f3, f4, qs⟩ := boxf HX8.out
              obtain ⟨p0, p1, p2, p3, p4, -, -, -, -, -, ps⟩ := boxf HI8.out.box
              have hfl : (freed M ja).free.length = M.free.length + 1 := by rw [HFR.out.2.2]; simp
              have fx := freed_row HA8.out HFR.out.2.2
              obtain ⟨bf, of, rfl, cf⟩ := fx
              have cfl := cell_lt cf
              have nF : M.free.length ≤ 17592186044416 := by omega
              go_wp2
              go_ret
              exact ⟨rfl, HI8.out.below.alloc HI8.out.below.size _⟩


end Go.Proofs.Ytdbilofhcadmoaa.mm
