/- The contracts of checkChains and checkFree: the first error of the chains, and of what is free. -/
import Derived.Test.YtdbilofhcadmoabC02
namespace Go.Proofs.Ytdbilofhcadmoab.mm
open Go.ChangeShapes Go.WideShapes Go.ChangeAt Go.RowKit
set_option linter.unusedVariables false

set_option maxHeartbeats 1600000 in
theorem checkChains_any (M : Mm) (aS aH aF aL : Option Addr) (cS cH cF cL : Nat) (w : World) (A : At w aS aH aF aL cS cH cF cL M) (hl : M.locks.length = M.heads.length) :
    Calls Try.prog 109 #[.agg #[.slice aS M.slots.length cS, .slice aH M.heads.length cH, .slice aF M.free.length cF, .slice aL M.locks.length cL, .int .i64 M.now]] w fun e w' =>
      e = .returned (.int .i64 (firstE (chainErr M.heads.length M.slots.length) (M.heads.zip M.locks))) ∧ Below w.heap.size w w' := by
  obtain ⟨S, H, F, L, now⟩ := M
  obtain ⟨rs, rh, rf, rl⟩ := A
  dsimp only at rs rh rf rl hl ⊢
  have m1 := rs.max; have m2 := rs.le; have m3 := rh.max; have m4 := rh.le
  have n1 : S.length ≤ 9223372036854775807 := by omega
  have n2 : H.length ≤ 9223372036854775807 := by omega
  have hzl : (H.zip L).length = H.length := by rw [List.length_zip]; omega
  obtain ⟨f, hf⟩ : ∃ f, f = chainErr H.length S.length := ⟨_, rfl⟩
  have HF : Hid (f = chainErr H.length S.length) := hf
  rw [← hf]
  clear hf
  obtain ⟨Z, hZ⟩ : ∃ Z, Z = H.zip L := ⟨_, rfl⟩
  have HZ : Hid (Z = H.zip L) := hZ
  rw [← hZ] at hzl ⊢
  clear hZ
  have HL : Hid (Z.length = H.length) := hzl
  have HLL : Hid (L.length = H.length) := hl
  clear hzl hl
  have hz := rh.at_
  have hz2 := rl.at_
  clear rh rf rl rs
  go_enter Try.func109, Try.ntmps109
  go_wp2
  rcases hz with h0 | ⟨b, o, rfl, hc⟩
  · have HE : Hid (firstE f Z = 0) := by
      show _ = _
      rw [List.eq_nil_of_length_eq_zero (HL.out.trans h0)]; rfl
    refine wp_loop_rounds 1 ?_
    rw [rounds_succ]
    go_wp2
    go_ret
    exact ⟨ret_int HE.out.symm, one_below _ _⟩
  · rcases hz2 with h0 | ⟨b2, o2, rfl, hc2⟩
    · have h0' : H.length = 0 := by rw [← HLL.out]; exact h0
      have HE : Hid (firstE f Z = 0) := by
        show _ = _
        rw [List.eq_nil_of_length_eq_zero (HL.out.trans h0')]; rfl
      refine wp_loop_rounds 1 ?_
      rw [rounds_succ]
      go_wp2
      go_ret
      exact ⟨ret_int HE.out.symm, one_below _ _⟩
    go_loopw [8] (fun i wr => ∃ k : Nat, k ≤ H.length ∧ i = .int .i64 k ∧ Below (w.heap.size + 1) (w.alloc (.cells #[.slice aS S.length cS, .slice (some ⟨b, o, none⟩) H.length cH, .slice aF F.length cF, .slice (some ⟨b2, o2, none⟩) L.length cL, .int .i64 now] 25)) wr ∧ Hid (firstE f Z = firstE f (Z.drop k)))
      (fun i _ => H.length - (intOf i).toNat)
    case atStart => exact ⟨0, Nat.zero_le _, rfl, Below.refl _ _, by show _ = _; rw [List.drop_zero]⟩
    case round =>
      obtain ⟨k, hk, rfl, hb, HE⟩ := hrel
      have hbw : Below w.heap.size w wr := (one_below w _).trans (hb.mono (by omega))
      obtain ⟨q0, q1, q2, q3, q4, q5⟩ := box_cells hb
      by_cases hlt : k < H.length
      · have hltL : k < L.length := by have := HLL.out; omega
        have hltZ : k < Z.length := by have := HL.out; omega
        have c0 := hc k hlt
        have d0 := hc2 k hltL
        have lt := cell_lt c0
        have lt2 := cell_lt d0
        obtain ⟨qc, -⟩ := bcell hbw
        rw [← qc _ _ lt] at c0
        rw [← qc _ _ lt2] at d0
        clear hc hc2 qc
        generalize hx : H[k] = x at c0
        generalize hy : L[k] = y at d0
        have HS : Hid (Z[k] = (x, y)) := by
          show _ = _
          have e : Z[k]? = some (x, y) := by rw [HZ.out, List.getElem?_zip_eq_some]; exact ⟨by rw [List.getElem?_eq_getElem hlt, hx], by rw [List.getElem?_eq_getElem hltL, hy]⟩
          rw [List.getElem?_eq_getElem hltZ] at e
          exact Option.some.inj e
        clear hx hy
        by_cases hx0 : x = 0
        · have HV : Hid (firstE f Z = 5) := step_err hltZ (by rw [HS.out, HF.out]; simp [chainErr, hx0]) (by decide) HE.out
          subst hx0
          go_wp2
          go_ret
          exact ⟨ret_int HV.out.symm, hbw⟩
        have hx1 : (x == 0) = false := by simpa using hx0
        cases h1 : inB x (-(H.length : Int)) S.length
        · have HV : Hid (firstE f Z = 5) := step_err hltZ (by rw [HS.out, HF.out]; simp [chainErr, h1]) (by decide) HE.out
          go_wp2_with (go_at_call 153; refine (mayStand_any _ _ _ _ _ _ _ _ _ _ _ _ _ _ _ n1 n2).mono ?_; rintro e w2 ⟨rfl, hb2⟩)
          go_ret
          exact ⟨ret_int HV.out.symm, hbw.trans (hb2.mono hbw.size)⟩
        go_wp2_with fail
        refine (mayStand_any _ _ _ _ _ _ _ _ _ _ _ _ _ _ _ n1 n2).mono ?_
        rintro e w2 ⟨rfl, hb2⟩
        have hbx := hbw.trans (hb2.mono hbw.size)
        have hby := hb.trans (hb2.mono q5)
        replace d0 := ((bcell hb2).1 _ _ (cell_lt d0)).trans d0
        clear hb2 q0 q1 q2 q3 q4
        obtain ⟨q0, q1, q2, q3, q4, -⟩ := box_cells hby
        cases h2 : inB y (-1) 4
        · have HV : Hid (firstE f Z = 3) := step_err hltZ (by rw [HS.out, HF.out]; simp [chainErr, hx0, h1, h2]) (by decide) HE.out
          go_wp2_with (go_at_call 81; refine (within_any _ _ _ _).mono ?_; rintro e w1 ⟨rfl, rfl⟩)
          go_ret
          exact ⟨ret_int HV.out.symm, hbx⟩
        · have HV : Hid (firstE f Z = firstE f (Z.drop (k + 1))) := step_ok hltZ (by rw [HS.out, HF.out]; simp [chainErr, hx0, h1, h2]) HE.out
          go_wp2_with (go_at_call 81; refine (within_any _ _ _ _).mono ?_; rintro e w1 ⟨rfl, rfl⟩)
          go_roundw
          case rel => exact ⟨k + 1, by omega, by go_num, hby, HV⟩
          case measure => simp [intOf]; omega
      · have HV : Hid (firstE f Z = 0) := by
          show _ = _
          rw [HE.out, firstE_end f Z k (by have := HL.out; omega)]
        go_wp2
        go_ret
        exact ⟨ret_int HV.out.symm, hbw⟩



end Go.Proofs.Ytdbilofhcadmoab.mm

/- The contract of checkFree: the first error of what is free, and whether a slot without Refs is not in Free. -/
namespace Go.Proofs.Ytdbilofhcadmoab.mm
open Go.ChangeShapes Go.WideShapes Go.ChangeAt Go.RowKit
set_option linter.unusedVariables false

theorem freeOk_of {S : List Sl} {a : Int} {k : Nat} (h : k < S.length) (ha : a = k) : freeOk S a = decide (S[k].refs = 0) := by
  subst ha
  simp [freeOk, h]
theorem freeOk_no {S : List Sl} {a : Int} (h : inB a 0 ((S.length : Int) - 1) = false) : freeOk S a = false := by
  have : ¬ (0 ≤ a ∧ a ≤ (S.length : Int) - 1) := fun hh => by rw [(inB_iff _ _ _).2 hh] at h; cases h
  rw [Bool.eq_false_iff]
  intro hh
  rw [freeOk_iff] at hh
  omega

theorem contains_all (ao : Option Addr) (cap : Nat) (l : List Int) (x : Int) (w : World) (r : IRow w ao cap l) :
    Calls Try.prog 20 #[.slice ao l.length cap, .int .i64 x] w fun e w' => e = .returned (.bool (hasB l x)) ∧ w = w' := by
  have := contains_any ao l.length cap l x w (Nat.le_refl _) (by have := r.max; omega) r.at_
  rwa [List.take_length] at this

theorem ferr_step5 {S : List Sl} {F : List Int} {k : Nat} (h : k < F.length) (h0 : freeOk S F[k] = false) (H : freeErr S [] F = freeErr S (F.take k) (F.drop k)) : freeErr S [] F = 5 := by
  rw [H, freeErr_drop S F k h, h0]; rfl
theorem ferr_step6 {S : List Sl} {F : List Int} {k : Nat} (h : k < F.length) (h0 : freeOk S F[k] = true) (h1 : hasB (F.take k) F[k] = true) (H : freeErr S [] F = freeErr S (F.take k) (F.drop k)) : freeErr S [] F = 6 := by
  rw [H, freeErr_drop S F k h, h0, h1]; rfl
theorem ferr_step {S : List Sl} {F : List Int} {k : Nat} (h : k < F.length) (h0 : freeOk S F[k] = true) (h1 : hasB (F.take k) F[k] = false) (H : freeErr S [] F = freeErr S (F.take k) (F.drop k)) : freeErr S [] F = freeErr S (F.take (k + 1)) (F.drop (k + 1)) := by
  rw [H, freeErr_drop S F k h, h0, h1]; rfl
theorem lost_step4 {S : List Sl} {F : List Int} {k : Nat} (h : k < S.length) (h0 : S[k].refs = 0) (h1 : hasB F (k : Int) = false) (H : lostErr F 0 S = lostErr F k (S.drop k)) : lostErr F 0 S = 4 := by
  rw [H, lostErr_drop F S k h, h0, h1]; rfl
theorem lost_step {S : List Sl} {F : List Int} {k : Nat} (h : k < S.length) (h0 : S[k].refs ≠ 0 ∨ hasB F (k : Int) = true) (H : lostErr F 0 S = lostErr F k (S.drop k)) : lostErr F 0 S = lostErr F (k + 1) (S.drop (k + 1)) := by
  rw [H, lostErr_drop F S k h]
  rcases h0 with h0 | h0
  · rw [if_neg (by simp [h0])]
  · rw [if_neg (by simp [h0])]

set_option maxHeartbeats 3200000 in
theorem checkFree_any (M : Mm) (aS aH aF aL : Option Addr) (cS cH cF cL : Nat) (w : World) (A : At w aS aH aF aL cS cH cF cL M) :
    Calls Try.prog 110 #[.agg #[.slice aS M.slots.length cS, .slice aH M.heads.length cH, .slice aF M.free.length cF, .slice aL M.locks.length cL, .int .i64 M.now]] w fun e w' =>
      e = .returned (.int .i64 (if freeErr M.slots [] M.free ≠ 0 then freeErr M.slots [] M.free else lostErr M.free 0 M.slots)) ∧ Below w.heap.size w w' := by
  obtain ⟨S, H, F, L, now⟩ := M
  obtain ⟨rs, rh, rf, rl⟩ := A
  dsimp only at rs rh rf rl ⊢
  have m1 := rs.max; have m2 := rs.le; have m3 := rf.max; have m4 := rf.le
  have n1 : S.length ≤ 9223372036854775807 := by omega
  have n2 : F.length ≤ 9223372036854775807 := by omega
  obtain ⟨Z, hZ⟩ : ∃ Z : Int, Z = (if freeErr S [] F ≠ 0 then freeErr S [] F else lostErr F 0 S) := ⟨_, rfl⟩
  have HZ : Hid (Z = (if freeErr S [] F ≠ 0 then freeErr S [] F else lostErr F 0 S)) := hZ
  rw [← hZ]
  clear hZ
  have HRS : Hid (SRow w aS cS S) := rs
  have HRF : Hid (IRow w aF cF F) := rf
  clear rh rf rl rs
  go_enter Try.func110, Try.ntmps110
  go_wp2
  go_loopw [10] (fun i wr => ∃ k : Nat, k ≤ F.length ∧ i = .int .i64 k ∧ Below (w.heap.size + 1) (w.alloc (.cells #[.slice aS S.length cS, .slice aH H.length cH, .slice aF F.length cF, .slice aL L.length cL, .int .i64 now] 25)) wr ∧ Hid (freeErr S [] F = freeErr S (F.take k) (F.drop k)))
    (fun i _ => F.length - (intOf i).toNat)
  case atStart => exact ⟨0, Nat.zero_le _, rfl, Below.refl _ _, by show _ = _; rw [List.drop_zero, List.take_zero]⟩
  case round =>
    obtain ⟨k, hk, rfl, hb, HE⟩ := hrel
    have hbw : Below w.heap.size w wr := (one_below w _).trans (hb.mono (by omega))
    obtain ⟨q0, q1, q2, q3, q4, q5⟩ := box_cells hb
    by_cases hlt : k < F.length
    · rcases HRF.out.at_ with h0 | ⟨b, o, rfl, hc⟩
      · omega
      have c0 := hc k hlt
      have lt := cell_lt c0
      rw [← (bcell hbw).1 _ _ lt] at c0
      generalize hx : F[k] = x at c0
      have HX : Hid (F[k] = x) := hx
      clear hx
      cases h1 : inB x 0 ((S.length : Int) - 1)
      · have HV : Hid (Z = 5) := by
          show _ = _
          rw [HZ.out, ferr_step5 hlt (by rw [HX.out]; exact freeOk_no h1) HE.out]; rfl
        go_wp2_with (go_at_call 78; refine (isSlot_any _ _ _ _ _ _ _ _ _ _ _ _ _ _ _ n1).mono ?_; rintro e w2 ⟨rfl, hb2⟩)
        go_ret
        exact ⟨ret_int HV.out.symm, hbw.trans (hb2.mono hbw.size)⟩
      have hxb := (inB_iff _ _ _).1 h1
      obtain ⟨j, rfl⟩ : ∃ j : Nat, x = j := ⟨x.toNat, by omega⟩
      have hj : j < S.length := by omega
      rcases HRS.out.at_ with h0 | ⟨b2, o2, rfl, hc2⟩
      · omega
      have d0 := (hc2 j hj).1
      have lt2 := cell_lt d0
      rw [← (bcell hbw).1 _ _ lt2] at d0
      generalize hr : S[j].refs = r at d0
      have HOK : Hid (freeOk S (F[k]'hlt) = decide (r = 0)) := by
        show _ = _
        rw [HX.out, freeOk_of hj rfl, hr]
      clear hr hc2
      go_wp2_with fail
      refine (isSlot_any _ _ _ _ _ _ _ _ _ _ _ _ _ _ _ n1).mono ?_
      rintro e w2 ⟨rfl, hb2⟩
      have hbx := hbw.trans (hb2.mono hbw.size)
      have hby := hb.trans (hb2.mono q5)
      replace d0 := ((bcell hb2).1 _ _ (cell_lt d0)).trans d0
      clear hb2 q0 q1 q2 q3 q4 c0
      obtain ⟨q0, q1, q2, q3, q4, -⟩ := box_cells hby
      by_cases hr0 : r = 0
      · subst hr0
        have HAT : Hid (k = 0 ∨ ∃ b' o', (some ⟨b, o, none⟩ : Option Addr) = some ⟨b', o', none⟩ ∧ ∀ i (h : i < F.length), w2.cell? ⟨b', o' + i, none⟩ = some (.int .i64 F[i])) :=
          .inr ⟨b, o, rfl, fun i hi => ((bcell hbx).1 _ _ (cell_lt (hc i hi))).trans (hc i hi)⟩
        clear hc
        cases h2 : hasB (F.take k) j
        · have HV : Hid (freeErr S [] F = freeErr S (F.take (k + 1)) (F.drop (k + 1))) := ferr_step hlt (by rw [HOK.out]; rfl) (by rw [HX.out]; exact h2) HE.out
          go_wp2_with (go_at_call 20; refine (contains_any _ _ _ F _ _ hk (by omega) HAT.out).mono ?_; rintro e w1 ⟨rfl, rfl⟩)
          go_roundw
          case rel => exact ⟨k + 1, by omega, by go_num, hby, HV⟩
          case measure => simp [intOf]; omega
        · have HV : Hid (Z = 6) := by
            show _ = _
            rw [HZ.out, ferr_step6 hlt (by rw [HOK.out]; rfl) (by rw [HX.out]; exact h2) HE.out]; rfl
          go_wp2_with (go_at_call 20; refine (contains_any _ _ _ F _ _ hk (by omega) HAT.out).mono ?_; rintro e w1 ⟨rfl, rfl⟩)
          go_ret
          exact ⟨ret_int HV.out.symm, hbx⟩
      · have hr1 : (r != 0) = true := by simpa using hr0
        have HV : Hid (Z = 5) := by
          show _ = _
          rw [HZ.out, ferr_step5 hlt (by rw [HOK.out]; simpa using hr0) HE.out]; rfl
        go_wp2
        go_ret
        exact ⟨ret_int HV.out.symm, hbx⟩
    · have HZ2 : Hid (Z = lostErr F 0 S) := by
        show _ = _
        rw [HZ.out, HE.out, freeErr_end S F k (by omega)]; rfl
      clear HZ HE
      go_wp2
      go_loopw [38] (fun i wr => ∃ k : Nat, k ≤ S.length ∧ i = .int .i64 k ∧ Below (w.heap.size + 1) (w.alloc (.cells #[.slice aS S.length cS, .slice aH H.length cH, .slice aF F.length cF, .slice aL L.length cL, .int .i64 now] 25)) wr ∧ Hid (lostErr F 0 S = lostErr F k (S.drop k)))
        (fun i _ => S.length - (intOf i).toNat)
      case atStart => exact ⟨0, Nat.zero_le _, rfl, hb, by show _ = _; rw [List.drop_zero]⟩
      case round =>
        obtain ⟨k2, hk2, rfl, hb3, HE⟩ := hrel
        clear hbw hb q0 q1 q2 q3 q4 q5
        have hbw : Below w.heap.size w wr := (one_below w _).trans (hb3.mono (by omega))
        obtain ⟨q0, q1, q2, q3, q4, q5⟩ := box_cells hb3
        have q6 : w.heap.size < wr.heap.size := q5
        by_cases hlt2 : k2 < S.length
        · rcases HRS.out.at_ with h0 | ⟨b, o, rfl, hc⟩
          · omega
          obtain ⟨c0, c1, c2, c3, c4, c5⟩ := hc k2 hlt2
          have lt := cell_lt c0
          rw [← (bcell hbw).1 _ _ lt] at c0 c1 c2 c3 c4 c5
          clear hc
          generalize hs : S[k2] = s at c0 c1 c2 c3 c4 c5
          obtain ⟨r, a, bb, u, i, nx⟩ := s
          dsimp only at c0 c1 c2 c3 c4 c5
          have HS : Hid (S[k2] = ⟨r, a, bb, u, i, nx⟩) := hs
          clear hs
          have hbx := hbw.alloc hbw.size (.cells #[.int .i64 r, .int .i64 a, .int .i64 bb, .int .i64 u, .bool i, .int .i64 nx] 39)
          have hby := hb3.alloc q5 (.cells #[.int .i64 r, .int .i64 a, .int .i64 bb, .int .i64 u, .bool i, .int .i64 nx] 39)
          have HRF2 : Hid _ := HRF.out.below hbx
          by_cases hr0 : r = 0
          · subst hr0
            cases h2 : hasB F k2
            · have HV : Hid (Z = 4) := by
                show _ = _
                rw [HZ2.out, lost_step4 hlt2 (by rw [HS.out]) h2 HE.out]
              go_wp2_with (go_at_call 20; refine (contains_all _ _ F _ _ HRF2.out).mono ?_; rintro e w1 ⟨rfl, rfl⟩)
              go_ret
              exact ⟨ret_int HV.out.symm, hbx⟩
            · have HV : Hid (lostErr F 0 S = lostErr F (k2 + 1) (S.drop (k2 + 1))) := lost_step hlt2 (.inr h2) HE.out
              go_wp2_with (go_at_call 20; refine (contains_all _ _ F _ _ HRF2.out).mono ?_; rintro e w1 ⟨rfl, rfl⟩)
              go_roundw
              case rel => exact ⟨k2 + 1, by omega, by go_num, hby, HV⟩
              case measure => simp [intOf]; omega
          · have hr1 : (r == 0) = false := by simpa using hr0
            have HV : Hid (lostErr F 0 S = lostErr F (k2 + 1) (S.drop (k2 + 1))) := lost_step hlt2 (.inl (by rw [HS.out]; exact hr0)) HE.out
            go_wp2
            go_roundw
            case rel => exact ⟨k2 + 1, by omega, by go_num, hby, HV⟩
            case measure => simp [intOf]; omega
        · have HV : Hid (Z = 0) := by
            show _ = _
            rw [HZ2.out, HE.out, lostErr_end F S k2 (by omega)]
          go_wp2
          go_ret
          exact ⟨ret_int HV.out.symm, hbw⟩




end Go.Proofs.Ytdbilofhcadmoab.mm
