/- The contracts of checkChains and checkFree: the first error of the chains, and of what is free. -/
import Derived.Test.YtdbilofhcadmoaaSlots
namespace Go.Proofs.Ytdbilofhcadmoaa.mm
open Go.ChangeShapes Go.WideShapes Go.ChangeAt Go.RowKit
set_option linter.unusedVariables false

set_option maxHeartbeats 1600000 in
theorem checkChains_any (M : Mm) (aS aH aF aL : Option Addr) (cS cH cF cL : Nat) (w : World) (A : At w aS aH aF aL cS cH cF cL M) (hl : M.locks.length = M.heads.length) :
    Calls Try.prog 59 #[.agg #[.slice aS M.slots.length cS, .slice aH M.heads.length cH, .slice aF M.free.length cF, .slice aL M.locks.length cL, .int .i64 M.now]] w fun e w' =>
      e = .returned (.int .i64 (firstE (chainErr M.heads.length M.slots.length) (M.heads.zip M.locks))) ∧ Below w.heap.size w w' := by
  obtain ⟨S, H, F, L, now⟩ := M
  obtain ⟨rs, rh, rf, rl⟩ := A
  dsimp only at rs rh rf rl hl ⊢
  have m1 := rs.max; have m2 := rs.le; have m3 := rh.max; have m4 := rh.le
  have n1 : S.length ≤ 9223372036854775807 := by omega
  have n2 : H.length ≤ 9223372036854775807 := by omega
  have hzl : (H.zip L).length = H.length := by rw [List.length_zip]; omega
  obtain ⟨f, hf⟩ : ∃ f, f = chainErr H.length S.length := ⟨_, rfl⟩
  have HF : Hid (f = chainErr H.length S.length) := hf
  rw [← hf]
  clear hf
  obtain ⟨Z, hZ⟩ : ∃ Z, Z = H.zip L := ⟨_, rfl⟩
  have HZ : Hid (Z = H.zip L) := hZ
  rw [← hZ] at hzl ⊢
  clear hZ
  have HL : Hid (Z.length = H.length) := hzl
  have HLL : Hid (L.length = H.length) := hl
  clear hzl hl
  have hz := rh.at_
  have hz2 := rl.at_
  clear rh rf rl rs
  go_enter Try.func59, Try.ntmps59
  go_wp2
  rcases hz with h0 | ⟨b, o, rfl, hc⟩
  · have HE : Hid (firstE f Z = 0) := by
      show _ = _
      rw [List.eq_nil_of_length_eq_zero (HL.out.trans h0)]; rfl
    refine wp_loop_rounds 1 ?_
    rw [rounds_succ]
    go_wp2
    go_ret
    exact ⟨ret_int HE.out.symm, one_below _ _⟩
  · rcases hz2 with h0 | ⟨b2, o2, rfl, hc2⟩
    · have h0' : H.length = 0 := by rw [← HLL.out]; exact h0
      have HE : Hid (firstE f Z = 0) := by
        show _ = _
        rw [List.eq_nil_of_length_eq_zero (HL.out.trans h0')]; rfl
      refine wp_loop_rounds 1 ?_
      rw [rounds_succ]
      go_wp2
      go_ret
      exact ⟨ret_int HE.out.symm, one_below _ _⟩
    go_loopw [8] (fun i wr => ∃ k : Nat, k ≤ H.length ∧ i = .int .i64 k ∧ Below (w.heap.size + 1) (w.alloc (.cells #[.slice aS S.length cS, .slice (some ⟨b, o, none⟩) H.length cH, .slice aF F.length cF, .slice (some ⟨b2, o2, none⟩) L.length cL, .int .i64 now] 29)) wr ∧ Hid (firstE f Z = firstE f (Z.drop k)))
      (fun i _ => H.length - (intOf i).toNat)
    case atStart => exact ⟨0, Nat.zero_le _, rfl, Below.refl _ _, by show _ = _; rw [List.drop_zero]⟩
    case round =>
      obtain ⟨k, hk, rfl, hb, HE⟩ := hrel
      have hbw : Below w.heap.size w wr := (one_below w _).trans (hb.mono (by omega))
      obtain ⟨q0, q1, q2, q3, q4, q5⟩ := box_cells hb
      by_cases hlt : k < H.length
      · have hltL : k < L.length := by have := HLL.out; omega
        have hltZ : k < Z.length := by have := HL.out; omega
        have c0 := hc k hlt
        have d0 := hc2 k hltL
        have lt := cell_lt c0
        have lt2 := cell_lt d0
        obtain ⟨qc, -⟩ := bcell hbw
        rw [← qc _ _ lt] at c0
        rw [← qc _ _ lt2] at d0
        clear hc hc2 qc
        generalize hx : H[k] = x at c0
        generalize hy : L[k] = y at d0
        have HS : Hid (Z[k] = (x, y)) := by
          show _ = _
          have e : Z[k]? = some (x, y) := by rw [HZ.out, List.getElem?_zip_eq_some]; exact ⟨by rw [List.getElem?_eq_getElem hlt, hx], by rw [List.getElem?_eq_getElem hltL, hy]⟩
          rw [List.getElem?_eq_getElem hltZ] at e
          exact Option.some.inj e
        clear hx hy
        by_cases hx0 : x = 0
        · have HV : Hid (firstE f Z = 5) := step_err hltZ (by rw [HS.out, HF.out]; simp [chainErr, hx0]) (by decide) HE.out
          subst hx0
          go_wp2
          go_ret
          exact ⟨ret_int HV.out.symm, hbw⟩
        have hx1 : (x == 0) = false := by simpa using hx0
        cases h1 : inB x (-(H.length : Int)) S.length
        · have HV : Hid (firstE f Z = 5) := step_err hltZ (by rw [HS.out, HF.out]; simp [chainErr, h1]) (by decide) HE.out
          go_wp2_with (go_at_call 81; refine (mayStand_any _ _ _ _ _ _ _ _ _ _ _ _ _ _ _ n1 n2).mono ?_; rintro e w2 ⟨rfl, hb2⟩)
          go_ret
          exact ⟨ret_int HV.out.symm, hbw.trans (hb2.mono hbw.size)⟩
        go_wp2_with fail
        refine (mayStand_any _ _ _ _ _ _ _ _ _ _ _ _ _ _ _ n1 n2).mono ?_
        rintro e w2 ⟨rfl, hb2⟩
        have hbx := hbw.trans (hb2.mono hbw.size)
        have hby := hb.trans (hb2.mono q5)
        replace d0 := ((bcell hb2).1 _ _ (cell_lt d0)).trans d0
        clear hb2 q0 q1 q2 q3 q4
        obtain ⟨q0, q1, q2, q3, q4, -⟩ := box_cells hby
        cases h2 : inB y (-1) 4
        · have HV : Hid (firstE f Z = 3) := step_err hltZ (by rw [HS.out, HF.out]; simp [chainErr, hx0, h1, h2]) (by decide) HE.out
          go_wp2_with (go_at_call 56; refine (within_any _ _ _ _).mono ?_; rintro e w1 ⟨rfl, rfl⟩)
          go_ret
          exact ⟨ret_int HV.out.symm, hbx⟩
        · have HV : Hid (firstE f Z = firstE f (Z.drop (k + 1))) := step_ok hltZ (by rw [HS.out, HF.out]; simp [chainErr, hx0, h1, h2]) HE.out
          go_wp2_with (go_at_call 56; refine (within_any _ _ _ _).mono ?_; rintro e w1 ⟨rfl, rfl⟩)
          go_roundw
          case rel => exact ⟨k + 1, by omega, by go_num, hby, HV⟩
          case measure => simp [intOf]; omega
      · have HV : Hid (firstE f Z = 0) := by
          show _ = _
          rw [HE.out, firstE_end f Z k (by have := HL.out; omega)]
        go_wp2
        go_ret
        exact ⟨ret_int HV.out.symm, hbw⟩


end Go.Proofs.Ytdbilofhcadmoaa.mm
