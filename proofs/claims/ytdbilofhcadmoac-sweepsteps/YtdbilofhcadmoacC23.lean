/- The contract of the document's own CheckMem: it answers what Check answers. -/
import Derived.Test.YtdbilofhcadmoacC02
import Derived.Test.YtdbilofhcadmoacC01
import Derived.Deep.QuietTactic
import Derived.BigQuiet
namespace Go.Proofs.Ytdbilofhcadmoac.mm
open Go.ChangeShapes Go.WideShapes Go.ChangeAt Go.RowKit Go.Maps
set_option linter.unusedVariables false

theorem drewN_below' (w : World) (q : Nat) : Below w.heap.size w (w.drewN q) := ⟨rfl, rfl, rfl, Nat.le_refl _, fun _ _ => rfl⟩

set_option maxRecDepth 100000 in
set_option maxHeartbeats 1600000 in
theorem rc_many1 (S : List Sl) (H F L : List Int) (now : Int) (aS aH aF aL : Option Addr) (cS cH cF cL : Nat) (w : World) (n1 : S.length ≤ 9223372036854775807) (n2 : H.length ≤ 9223372036854775807) (n3 : L.length ≤ 9223372036854775807) (h : 12 < S.length) :
    Calls Try.prog 30 #[.agg #[.slice aS S.length cS, .slice aH H.length cH, .slice aF F.length cF, .slice aL L.length cL, .int .i64 now]] w fun e w' => e = .returned (.int .i64 2) ∧ Below w.heap.size w w' := by
  go_enter Try.func30, Try.ntmps30
  go_wp2_with fail
  go_quiet (fail)
  go_wp2
  go_ret
  exact ⟨rfl, (one_below _ _).trans ((drewN_below' _ _).mono (by simp))⟩

set_option maxRecDepth 100000 in
set_option maxHeartbeats 1600000 in
theorem rc_many2 (S : List Sl) (H F L : List Int) (now : Int) (aS aH aF aL : Option Addr) (cS cH cF cL : Nat) (w : World) (n1 : S.length ≤ 9223372036854775807) (n2 : H.length ≤ 9223372036854775807) (n3 : L.length ≤ 9223372036854775807) (h0 : S.length ≤ 12) (h : H.length < 1) :
    Calls Try.prog 30 #[.agg #[.slice aS S.length cS, .slice aH H.length cH, .slice aF F.length cF, .slice aL L.length cL, .int .i64 now]] w fun e w' => e = .returned (.int .i64 2) ∧ Below w.heap.size w w' := by
  go_enter Try.func30, Try.ntmps30
  go_wp2_with fail
  go_quiet (fail)
  go_wp2
  go_ret
  exact ⟨rfl, (one_below _ _).trans ((drewN_below' _ _).mono (by simp))⟩

set_option maxRecDepth 100000 in
set_option maxHeartbeats 1600000 in
theorem rc_many3 (S : List Sl) (H F L : List Int) (now : Int) (aS aH aF aL : Option Addr) (cS cH cF cL : Nat) (w : World) (n1 : S.length ≤ 9223372036854775807) (n2 : H.length ≤ 9223372036854775807) (n3 : L.length ≤ 9223372036854775807) (h0 : S.length ≤ 12) (h1 : 1 ≤ H.length) (h : 4 < H.length) :
    Calls Try.prog 30 #[.agg #[.slice aS S.length cS, .slice aH H.length cH, .slice aF F.length cF, .slice aL L.length cL, .int .i64 now]] w fun e w' => e = .returned (.int .i64 2) ∧ Below w.heap.size w w' := by
  go_enter Try.func30, Try.ntmps30
  go_wp2_with fail
  go_quiet (fail)
  go_wp2
  go_ret
  exact ⟨rfl, (one_below _ _).trans ((drewN_below' _ _).mono (by simp))⟩

set_option maxRecDepth 100000 in
set_option maxHeartbeats 1600000 in
theorem rc_form (S : List Sl) (H F L : List Int) (now : Int) (aS aH aF aL : Option Addr) (cS cH cF cL : Nat) (w : World) (n1 : S.length ≤ 9223372036854775807) (n2 : H.length ≤ 9223372036854775807) (n3 : L.length ≤ 9223372036854775807) (h0 : S.length ≤ 12) (h1 : 1 ≤ H.length) (h2 : H.length ≤ 4) (h : L.length ≠ H.length) :
    Calls Try.prog 30 #[.agg #[.slice aS S.length cS, .slice aH H.length cH, .slice aF F.length cF, .slice aL L.length cL, .int .i64 now]] w fun e w' => e = .returned (.int .i64 4) ∧ Below w.heap.size w w' := by
  have hb : ((L.length : Int) != (H.length : Int)) = true := by rw [bne_iff_ne]; omega
  go_enter Try.func30, Try.ntmps30
  go_wp2_with fail
  go_quiet (fail)
  go_wp2
  go_ret
  exact ⟨rfl, (one_below _ _).trans ((drewN_below' _ _).mono (by simp))⟩

set_option maxRecDepth 100000 in
set_option maxHeartbeats 1600000 in
theorem rc_now1 (S : List Sl) (H F L : List Int) (now : Int) (aS aH aF aL : Option Addr) (cS cH cF cL : Nat) (w : World) (n1 : S.length ≤ 9223372036854775807) (n2 : H.length ≤ 9223372036854775807) (n3 : L.length ≤ 9223372036854775807) (h0 : S.length ≤ 12) (h1 : 1 ≤ H.length) (h2 : H.length ≤ 4) (h3 : L.length = H.length) (h : now < 0) :
    Calls Try.prog 30 #[.agg #[.slice aS S.length cS, .slice aH H.length cH, .slice aF F.length cF, .slice aL L.length cL, .int .i64 now]] w fun e w' => e = .returned (.int .i64 3) ∧ Below w.heap.size w w' := by
  have hb : ((L.length : Int) != (H.length : Int)) = false := by rw [h3]; simp
  clear h3
  go_enter Try.func30, Try.ntmps30
  go_wp2_with fail
  go_quiet (fail)
  go_wp2
  go_ret
  exact ⟨rfl, (one_below _ _).trans ((drewN_below' _ _).mono (by simp))⟩

set_option maxRecDepth 100000 in
set_option maxHeartbeats 1600000 in
theorem rc_now2 (S : List Sl) (H F L : List Int) (now : Int) (aS aH aF aL : Option Addr) (cS cH cF cL : Nat) (w : World) (n1 : S.length ≤ 9223372036854775807) (n2 : H.length ≤ 9223372036854775807) (n3 : L.length ≤ 9223372036854775807) (h0 : S.length ≤ 12) (h1 : 1 ≤ H.length) (h2 : H.length ≤ 4) (h3 : L.length = H.length) (h4 : 0 ≤ now) (h : 1000000 < now) :
    Calls Try.prog 30 #[.agg #[.slice aS S.length cS, .slice aH H.length cH, .slice aF F.length cF, .slice aL L.length cL, .int .i64 now]] w fun e w' => e = .returned (.int .i64 3) ∧ Below w.heap.size w w' := by
  have hb : ((L.length : Int) != (H.length : Int)) = false := by rw [h3]; simp
  clear h3
  go_enter Try.func30, Try.ntmps30
  go_wp2_with fail
  go_quiet (fail)
  go_wp2
  go_ret
  exact ⟨rfl, (one_below _ _).trans ((drewN_below' _ _).mono (by simp))⟩

theorem inB_f1 {x lo hi : Int} (h : x < lo) : inB x lo hi = false := by
  rw [Bool.eq_false_iff]; intro hh; rw [inB_iff] at hh; omega
theorem inB_f2 {x lo hi : Int} (h : hi < x) : inB x lo hi = false := by
  rw [Bool.eq_false_iff]; intro hh; rw [inB_iff] at hh; omega
theorem inB_t {x lo hi : Int} (h0 : lo ≤ x) (h1 : x ≤ hi) : inB x lo hi = true := (inB_iff _ _ _).2 ⟨h0, h1⟩

set_option maxRecDepth 100000 in
set_option maxHeartbeats 6400000 in
theorem rc_main (S : List Sl) (H F L : List Int) (now : Int) (aS aH aF aL : Option Addr) (cS cH cF cL : Nat) (w : World) (A : At w aS aH aF aL cS cH cF cL ⟨S, H, F, L, now⟩)
    (h0 : S.length ≤ 12) (h1 : 1 ≤ H.length) (h2 : H.length ≤ 4) (h3 : L.length = H.length) (h4 : 0 ≤ now) (h5 : now ≤ 1000000) :
    Calls Try.prog 30 #[.agg #[.slice aS S.length cS, .slice aH H.length cH, .slice aF F.length cF, .slice aL L.length cL, .int .i64 now]] w fun e w' => e = .returned (.int .i64 (chk ⟨S, H, F, L, now⟩)) ∧ Below w.heap.size w w' := by
  obtain ⟨Z, hZ⟩ : ∃ Z : Int, Z = chk ⟨S, H, F, L, now⟩ := ⟨_, rfl⟩
  have HC : Hid (Z = (if firstE (slotErr H.length S.length) S ≠ 0 then firstE (slotErr H.length S.length) S
      else if firstE (chainErr H.length S.length) (H.zip L) ≠ 0 then firstE (chainErr H.length S.length) (H.zip L)
      else if freeErr S [] F ≠ 0 then freeErr S [] F
      else lostErr F 0 S)) := by
    show _ = _
    rw [hZ]
    unfold chk
    dsimp only
    rw [if_neg (by omega), if_neg (by simpa using h3), if_neg (by rw [inB_t h4 h5]; simp)]
  rw [← hZ]
  clear hZ
  have HRS : Hid _ := A.s
  have HRH : Hid _ := A.h
  have HRF : Hid _ := A.f
  have HRL : Hid _ := A.l
  have m3 := A.f.max
  have n3 : F.length ≤ 9223372036854775807 := by dsimp only at m3; omega
  clear m3
  have hb : ((L.length : Int) != (H.length : Int)) = false := by rw [h3]; simp
  have HLH : Hid (L.length = H.length) := h3
  clear A h3
  obtain ⟨f, hf⟩ : ∃ f, f = slotErr H.length S.length := ⟨_, rfl⟩
  have HF : Hid (f = slotErr H.length S.length) := hf
  clear hf
  go_enter Try.func30, Try.ntmps30
  go_wp2_with fail
  go_quiet (fail)
  go_wp2
  go_loopw [46] (fun i wr => ∃ k : Nat, k ≤ S.length ∧ i = .int .i64 k ∧ Below (w.heap.size + 1) (w.alloc (.cells #[.slice aS S.length cS, .slice aH H.length cH, .slice aF F.length cF, .slice aL L.length cL, .int .i64 now] 25)) wr ∧ Hid (firstE f S = firstE f (S.drop k)))
    (fun i _ => S.length - (intOf i).toNat)
  case atStart => exact ⟨0, Nat.zero_le _, rfl, (drewN_below' _ _).mono (by simp), by show _ = _; rw [List.drop_zero]⟩
  case round =>
    obtain ⟨k, hk, rfl, hb1, HE⟩ := hrel
    have hbw : Below w.heap.size w wr := (one_below w _).trans (hb1.mono (by omega))
    obtain ⟨q0, q1, q2, q3, q4, q5⟩ := box_cells hb1
    have q6 : w.heap.size < wr.heap.size := q5
    by_cases hlt : k < S.length
    · rcases HRS.out.at_ with h0' | ⟨b, o, rfl, hc⟩
      · omega
      obtain ⟨c0, c1, c2, c3, c4, c5⟩ := hc k hlt
      have lt := cell_lt c0
      rw [← (bcell hbw).1 _ _ lt] at c0 c1 c2 c3 c4 c5
      clear hc
      generalize hs : S[k] = s at c0 c1 c2 c3 c4 c5
      obtain ⟨r, a, bb, u, i, nx⟩ := s
      dsimp only at c0 c1 c2 c3 c4 c5
      have HS : Hid (S[k] = ⟨r, a, bb, u, i, nx⟩) := hs
      clear hs
      have hbx := hbw.alloc hbw.size (.cells #[.int .i64 r, .int .i64 a, .int .i64 bb, .int .i64 u, .bool i, .int .i64 nx] 53)
      have hby := hb1.alloc q5 (.cells #[.int .i64 r, .int .i64 a, .int .i64 bb, .int .i64 u, .bool i, .int .i64 nx] 53)
      have bad : ∀ e : Int, e ≠ 0 → slotErr H.length S.length ⟨r, a, bb, u, i, nx⟩ = e → Z = e := fun e he hh => by
        have h1 : firstE f S = e := step_err hlt (by rw [HS.out, HF.out]; exact hh) he HE.out
        rw [HF.out] at h1
        rw [HC.out, h1, if_pos he]
      have HBAD : Hid _ := bad
      clear bad
      by_cases g1 : r < 0
      · have HV : Hid (Z = 3) := HBAD.out 3 (by decide) (by simp [slotErr, inB_f1 g1])
        go_wp2
        go_ret
        exact ⟨ret_int HV.out.symm, hbx⟩
      have g1' : 0 ≤ r := by omega
      by_cases g2 : 1000 < r
      · have HV : Hid (Z = 3) := HBAD.out 3 (by decide) (by simp [slotErr, inB_f2 g2])
        go_wp2
        go_ret
        exact ⟨ret_int HV.out.symm, hbx⟩
      have g2' : r ≤ 1000 := by omega
      by_cases g3 : u < 0
      · have HV : Hid (Z = 3) := HBAD.out 3 (by decide) (by simp [slotErr, inB_f1 g3])
        go_wp2
        go_ret
        exact ⟨ret_int HV.out.symm, hbx⟩
      have g3' : 0 ≤ u := by omega
      by_cases g4 : 2000000 < u
      · have HV : Hid (Z = 3) := HBAD.out 3 (by decide) (by simp [slotErr, inB_f2 g4])
        go_wp2
        go_ret
        exact ⟨ret_int HV.out.symm, hbx⟩
      have g4' : u ≤ 2000000 := by omega
      go_wp2_with fail
      refine (isKey_any a bb _).mono ?_
      rintro e w1 ⟨rfl, hb2⟩
      have hbx2 := hbx.trans (hb2.mono (by have := hbw.size; simp; omega))
      have hby2 := hby.trans (hb2.mono (by simp; omega))
      have s5 : w1.cell? ⟨wr.heap.size, 5, none⟩ = some (.int .i64 nx) := ((bcell hb2).1 _ _ (by simp)).trans (by simp)
      clear hb2 hbx hby c0 c1 c2 c3 c4 c5 q0 q1 q2 q3 q4
      cases g5 : keyB a bb
      · have HV : Hid (Z = 3) := HBAD.out 3 (by decide) (by simp [slotErr, g5])
        go_wp2
        go_ret
        exact ⟨ret_int HV.out.symm, hbx2⟩
      by_cases g6 : (S.length : Int) < nx
      · have HV : Hid (Z = 5) := HBAD.out 5 (by decide) (by simp [slotErr, inB_t g1' g2', inB_t g3' g4', g5, inB_f2 g6])
        go_wp2
        go_ret
        exact ⟨ret_int HV.out.symm, hbx2⟩
      have g6' : nx ≤ (S.length : Int) := by omega
      by_cases g7 : nx < -(H.length : Int)
      · have HV : Hid (Z = 5) := HBAD.out 5 (by decide) (by simp [slotErr, inB_t g1' g2', inB_t g3' g4', g5, inB_f1 g7])
        go_wp2
        go_ret
        exact ⟨ret_int HV.out.symm, hbx2⟩
      have g7' : -(H.length : Int) ≤ nx := by omega
      have HV : Hid (firstE f S = firstE f (S.drop (k + 1))) := step_ok hlt (by rw [HS.out, HF.out]; simp [slotErr, inB_t g1' g2', inB_t g3' g4', g5, inB_t g7' g6']) HE.out
      go_wp2
      go_roundw
      case rel => exact ⟨k + 1, by omega, by go_num, hby2, HV⟩
      case measure => simp [intOf]; omega
    · have HC2 : Hid (Z = (if firstE (chainErr H.length S.length) (H.zip L) ≠ 0 then firstE (chainErr H.length S.length) (H.zip L)
          else if freeErr S [] F ≠ 0 then freeErr S [] F
          else lostErr F 0 S)) := by
        show _ = _
        have h1 : firstE f S = 0 := by rw [HE.out, firstE_end f S k (by omega)]
        rw [HF.out] at h1
        rw [HC.out, h1, if_neg (by simp)]
      have HGOOD : Hid (∀ j (hj : j < S.length), 0 ≤ S[j].refs) := fun j hj => by
        have h1 : firstE f S = 0 := by rw [HE.out, firstE_end f S k (by omega)]
        have h2 := (firstE_zero f S).1 h1 S[j] (List.getElem_mem hj)
        rw [HF.out] at h2
        have : inB S[j].refs 0 1000 = true := by
          cases hh : inB S[j].refs 0 1000
          · simp [slotErr, hh] at h2
          · rfl
        exact ((inB_iff _ _ _).1 this).1
      clear HC HE HF
      obtain ⟨f, hf⟩ : ∃ f, f = chainErr H.length S.length := ⟨_, rfl⟩
      have HF : Hid (f = chainErr H.length S.length) := hf
      clear hf
      have HZL : Hid ((H.zip L).length = H.length) := by show _ = _; rw [List.length_zip]; have := HLH.out; omega
      obtain ⟨ZZ, hZZ⟩ : ∃ ZZ, ZZ = H.zip L := ⟨_, rfl⟩
      have HZZ : Hid (ZZ = H.zip L) := hZZ
      clear hZZ
      go_wp2
      go_loopw [87] (fun i wr => ∃ k : Nat, k ≤ H.length ∧ i = .int .i64 k ∧ Below (w.heap.size + 1) (w.alloc (.cells #[.slice aS S.length cS, .slice aH H.length cH, .slice aF F.length cF, .slice aL L.length cL, .int .i64 now] 25)) wr ∧ Hid (firstE f ZZ = firstE f (ZZ.drop k)))
        (fun i _ => H.length - (intOf i).toNat)
      case atStart => exact ⟨0, Nat.zero_le _, rfl, hb1, by show _ = _; rw [List.drop_zero]⟩
      case round =>
        clear q0 q1 q2 q3 q4 q5 q6 hbw hb1
        obtain ⟨k2, hk2, rfl, hb1, HE⟩ := hrel
        have hbw : Below w.heap.size w wr := (one_below w _).trans (hb1.mono (by omega))
        obtain ⟨q0, q1, q2, q3, q4, q5⟩ := box_cells hb1
        by_cases hlt2 : k2 < H.length
        · have hltL : k2 < L.length := by have := HLH.out; omega
          have hltZ : k2 < ZZ.length := by have := HZL.out; rw [HZZ.out]; omega
          rcases HRH.out.at_ with h0' | ⟨b, o, rfl, hc⟩
          · omega
          rcases HRL.out.at_ with h0' | ⟨b2, o2, rfl, hc2⟩
          · omega
          have c0 := hc k2 hlt2
          have d0 := hc2 k2 hltL
          have lt := cell_lt c0
          have lt2 := cell_lt d0
          rw [← (bcell hbw).1 _ _ lt] at c0
          rw [← (bcell hbw).1 _ _ lt2] at d0
          clear hc hc2
          generalize hx : H[k2] = x at c0
          generalize hy : L[k2] = y at d0
          have HS : Hid (ZZ[k2] = (x, y)) := by
            show _ = _
            have e : ZZ[k2]? = some (x, y) := by rw [HZZ.out, List.getElem?_zip_eq_some]; exact ⟨by rw [List.getElem?_eq_getElem hlt2, hx], by rw [List.getElem?_eq_getElem hltL, hy]⟩
            rw [List.getElem?_eq_getElem hltZ] at e
            exact Option.some.inj e
          clear hx hy
          have jl : (k2 : Int) < (L.length : Int) := by omega
          have bad : ∀ e : Int, e ≠ 0 → chainErr H.length S.length (x, y) = e → Z = e := fun e he hh => by
            have h1 : firstE f ZZ = e := step_err hltZ (by rw [HS.out, HF.out]; exact hh) he HE.out
            rw [HF.out, HZZ.out] at h1
            rw [HC2.out, h1, if_pos he]
          have HBAD : Hid _ := bad
          clear bad
          by_cases g1 : x = 0
          · have HV : Hid (Z = 5) := HBAD.out 5 (by decide) (by simp [chainErr, g1])
            subst g1
            go_wp2
            go_ret
            exact ⟨ret_int HV.out.symm, hbw⟩
          have g1' : (x == 0) = false := by simpa using g1
          by_cases g2 : (S.length : Int) < x
          · have HV : Hid (Z = 5) := HBAD.out 5 (by decide) (by simp [chainErr, inB_f2 g2])
            go_wp2
            go_ret
            exact ⟨ret_int HV.out.symm, hbw⟩
          have g2' : x ≤ (S.length : Int) := by omega
          by_cases g3 : x < -(H.length : Int)
          · have HV : Hid (Z = 5) := HBAD.out 5 (by decide) (by simp [chainErr, inB_f1 g3])
            go_wp2
            go_ret
            exact ⟨ret_int HV.out.symm, hbw⟩
          have g3' : -(H.length : Int) ≤ x := by omega
          by_cases g4 : y < -1
          · have HV : Hid (Z = 3) := HBAD.out 3 (by decide) (by simp [chainErr, g1, inB_t g3' g2', inB_f1 g4])
            go_wp2
            go_ret
            exact ⟨ret_int HV.out.symm, hbw⟩
          have g4' : -1 ≤ y := by omega
          by_cases g5 : 4 < y
          · have HV : Hid (Z = 3) := HBAD.out 3 (by decide) (by simp [chainErr, g1, inB_t g3' g2', inB_f2 g5])
            go_wp2
            go_ret
            exact ⟨ret_int HV.out.symm, hbw⟩
          have g5' : y ≤ 4 := by omega
          have HV : Hid (firstE f ZZ = firstE f (ZZ.drop (k2 + 1))) := step_ok hltZ (by rw [HS.out, HF.out]; simp [chainErr, g1, inB_t g3' g2', inB_t g4' g5']) HE.out
          go_wp2
          go_roundw
          case rel => exact ⟨k2 + 1, by omega, by go_num, hb1, HV⟩
          case measure => simp [intOf]; omega
        · have HC3 : Hid (Z = (if freeErr S [] F ≠ 0 then freeErr S [] F else lostErr F 0 S)) := by
            show _ = _
            have h1 : firstE f ZZ = 0 := by rw [HE.out, firstE_end f ZZ k2 (by have := HZL.out; rw [HZZ.out]; omega)]
            rw [HF.out, HZZ.out] at h1
            rw [HC2.out, h1, if_neg (by simp)]
          clear HC2 HE HF HZL HZZ
          have hmm := @run_makeMap Try.prog
          have q6 : w.heap.size < wr.heap.size := q5
          go_wp2
          obtain ⟨G, hG⟩ : ∃ G, G = wr.heap.size := ⟨_, rfl⟩
          rw [← hG]
          have HST : Hid (SetAt (wr.alloc (.map #[] 0)) G []) := by rw [hG]; exact SetAt.made wr
          have hb2 := hb1.alloc q5 (.map #[] 0)
          have hGl : w.heap.size < G := by rw [hG]; exact q5
          clear hG hmm q0 q1 q2 q3 q4 q5 hbw hb1
          go_loopw [127] (fun i wr => ∃ k : Nat, k ≤ F.length ∧ i = .int .i64 k ∧ Below (w.heap.size + 1) (w.alloc (.cells #[.slice aS S.length cS, .slice aH H.length cH, .slice aF F.length cF, .slice aL L.length cL, .int .i64 now] 25)) wr ∧ SetAt wr G (F.take k) ∧ Hid (freeErr S [] F = freeErr S (F.take k) (F.drop k)))
            (fun i _ => F.length - (intOf i).toNat)
          case atStart => exact ⟨0, Nat.zero_le _, rfl, hb2, HST.out, by show _ = _; rw [List.drop_zero, List.take_zero]⟩
          case round =>
            obtain ⟨k3, hk3, rfl, hb1, hST, HE⟩ := hrel
            clear HST hb2
            have HST : Hid (SetAt wr G (F.take k3)) := hST
            clear hST
            have hbw : Below w.heap.size w wr := (one_below w _).trans (hb1.mono (by omega))
            obtain ⟨q0, q1, q2, q3, q4, q5⟩ := box_cells hb1
            by_cases hlt3 : k3 < F.length
            · rcases HRF.out.at_ with h0' | ⟨b, o, rfl, hc⟩
              · omega
              have c0 := hc k3 hlt3
              have lt := cell_lt c0
              rw [← (bcell hbw).1 _ _ lt] at c0
              clear hc
              generalize hx : F[k3] = x at c0
              have HX : Hid (F[k3] = x) := hx
              clear hx
              have bad5 : freeOk S x = false → Z = 5 := fun hh => by
                rw [HC3.out, ferr_step5 hlt3 (by rw [HX.out]; exact hh) HE.out]; rfl
              have HB5 : Hid _ := bad5
              clear bad5
              by_cases g1 : x < 0
              · have HV : Hid (Z = 5) := HB5.out (freeOk_no (inB_f1 g1))
                go_wp2
                go_ret
                exact ⟨ret_int HV.out.symm, hbw⟩
              have g1' : 0 ≤ x := by omega
              by_cases g2 : (S.length : Int) ≤ x
              · have HV : Hid (Z = 5) := HB5.out (freeOk_no (inB_f2 (by omega)))
                go_wp2
                go_ret
                exact ⟨ret_int HV.out.symm, hbw⟩
              have g2' : x < (S.length : Int) := by omega
              obtain ⟨j, rfl⟩ : ∃ j : Nat, x = j := ⟨x.toNat, by omega⟩
              have hj : j < S.length := by omega
              rcases HRS.out.at_ with h0' | ⟨b2, o2, rfl, hc2⟩
              · omega
              have d0 := (hc2 j hj).1
              have lt2 := cell_lt d0
              rw [← (bcell hbw).1 _ _ lt2] at d0
              clear hc2
              generalize hr : S[j].refs = r at d0
              have HOK : Hid (freeOk S (j : Int) = decide (r = 0)) := by
                show _ = _
                rw [freeOk_of hj rfl, hr]
              have HRP : Hid (0 ≤ r) := by
                have := HGOOD.out j hj
                show 0 ≤ r
                rw [← hr]; exact this
              clear hr
              by_cases g3 : 0 < r
              · have HV : Hid (Z = 5) := HB5.out (by rw [HOK.out]; simp; omega)
                go_wp2
                go_ret
                exact ⟨ret_int HV.out.symm, hbw⟩
              have g3' : r = 0 := by have := HRP.out; have : 0 ≤ r := this; omega
              subst g3'
              have hlk := HST.out.look (x := (j : Int)) (wf64 (by omega) (by omega))
              cases g4 : hasB (F.take k3) (j : Int)
              · rw [g4] at hlk
                have HV : Hid (freeErr S [] F = freeErr S (F.take (k3 + 1)) (F.drop (k3 + 1))) := ferr_step hlt3 (by rw [HX.out, HOK.out]; rfl) (by rw [HX.out]; exact g4) HE.out
                obtain ⟨nn, hnn, D, ho, hat⟩ := HST.out
                have HO : Hid (wr.ownsMap Try.prog 3 (plainElem Try.prog 4) G nn D) := ho
                have HAT : Hid _ := hat
                clear ho hat
                have HNN : Hid (nn ≤ (F.take k3).length) := hnn
                have hnl : nn ≤ k3 := by rw [List.length_take] at hnn; omega
                clear hnn
                go_wp2_with (at_mapUpdate; (refine wpList_mapUpdate_own (H := Unit) _ rfl _ _ _ 94 rfl 3 4 law3 under94 (plainElem Try.prog 4) G nn D rfl HO.out (by unfold maxLen; omega) _ _ (.int .i64 (j : Int)) rfl rfl (keyOf_int_mk Try.underlying3 (wf64 (by omega) (by omega))) (.lit (.bool true)) [] (plainElem_bool Try.underlying4 true) ?_; intro w9 ho9 hg9))
                go_roundw
                case rel => exact ⟨k3 + 1, by omega, by go_num, hb1.grown hg9 q5 (fun k h => by cases h; exact hGl), by rw [List.take_succ_eq_append_getElem hlt3, HX.out]; exact SetAt.put HNN.out HO.out HAT.out ho9, HV⟩
                case measure => simp [intOf]; omega
              · rw [g4] at hlk
                have HV : Hid (Z = 6) := by
                  show _ = _
                  rw [HC3.out, ferr_step6 hlt3 (by rw [HX.out, HOK.out]; rfl) (by rw [HX.out]; exact g4) HE.out]; rfl
                go_wp2
                go_ret
                exact ⟨ret_int HV.out.symm, hbw⟩
            · have HZ2 : Hid (Z = lostErr F 0 S) := by
                show _ = _
                rw [HC3.out, HE.out, freeErr_end S F k3 (by omega)]; rfl
              have HST2 : Hid (SetAt wr G F) := by
                have := HST.out
                rwa [List.take_of_length_le (by omega)] at this
              clear HC3 HE HST
              go_wp2
              go_loopw [156] (fun i wr => ∃ k : Nat, k ≤ S.length ∧ i = .int .i64 k ∧ Below (w.heap.size + 1) (w.alloc (.cells #[.slice aS S.length cS, .slice aH H.length cH, .slice aF F.length cF, .slice aL L.length cL, .int .i64 now] 25)) wr ∧ SetAt wr G F ∧ Hid (lostErr F 0 S = lostErr F k (S.drop k)))
                (fun i _ => S.length - (intOf i).toNat)
              case atStart => exact ⟨0, Nat.zero_le _, rfl, hb1, HST2.out, by show _ = _; rw [List.drop_zero]⟩
              case round =>
                clear q0 q1 q2 q3 q4 q5 hbw hb1 HST2
                obtain ⟨k4, hk4, rfl, hb1, hST, HE⟩ := hrel
                have HST : Hid (SetAt wr G F) := hST
                clear hST
                have hbw : Below w.heap.size w wr := (one_below w _).trans (hb1.mono (by omega))
                obtain ⟨q0, q1, q2, q3, q4, q5⟩ := box_cells hb1
                by_cases hlt4 : k4 < S.length
                · rcases HRS.out.at_ with h0' | ⟨b, o, rfl, hc⟩
                  · omega
                  obtain ⟨c0, c1, c2, c3, c4, c5⟩ := hc k4 hlt4
                  have lt := cell_lt c0
                  rw [← (bcell hbw).1 _ _ lt] at c0 c1 c2 c3 c4 c5
                  clear hc
                  generalize hs : S[k4] = s at c0 c1 c2 c3 c4 c5
                  obtain ⟨r, a, bb, u, i, nx⟩ := s
                  dsimp only at c0 c1 c2 c3 c4 c5
                  have HS : Hid (S[k4] = ⟨r, a, bb, u, i, nx⟩) := hs
                  clear hs
                  have hbx := hbw.alloc hbw.size (.cells #[.int .i64 r, .int .i64 a, .int .i64 bb, .int .i64 u, .bool i, .int .i64 nx] 53)
                  have hby := hb1.alloc q5 (.cells #[.int .i64 r, .int .i64 a, .int .i64 bb, .int .i64 u, .bool i, .int .i64 nx] 53)
                  have HST4 : Hid (SetAt (wr.alloc (.cells #[.int .i64 r, .int .i64 a, .int .i64 bb, .int .i64 u, .bool i, .int .i64 nx] 53)) G F) := HST.out.kept (Below.heap_alloc _ _ _ HST.out.lt)
                  have hlk := HST4.out.look (x := (k4 : Int)) (wf64 (by omega) (by omega))
                  by_cases g1 : r = 0
                  · subst g1
                    cases g2 : hasB F (k4 : Int)
                    · rw [g2] at hlk
                      have HV : Hid (Z = 4) := by
                        show _ = _
                        rw [HZ2.out, lost_step4 hlt4 (by rw [HS.out]) g2 HE.out]
                      go_wp2
                      go_ret
                      exact ⟨ret_int HV.out.symm, hbx⟩
                    · rw [g2] at hlk
                      have HV : Hid (lostErr F 0 S = lostErr F (k4 + 1) (S.drop (k4 + 1))) := lost_step hlt4 (.inr g2) HE.out
                      go_wp2
                      go_roundw
                      case rel => exact ⟨k4 + 1, by omega, by go_num, hby, HST4.out, HV⟩
                      case measure => simp [intOf]; omega
                  · have g1' : (r == 0) = false := by simpa using g1
                    have HV : Hid (lostErr F 0 S = lostErr F (k4 + 1) (S.drop (k4 + 1))) := lost_step hlt4 (.inl (by rw [HS.out]; exact g1)) HE.out
                    clear hlk
                    go_wp2
                    go_roundw
                    case rel => exact ⟨k4 + 1, by omega, by go_num, hby, HST4.out, HV⟩
                    case measure => simp [intOf]; omega
                · have HV : Hid (Z = 0) := by
                    show _ = _
                    rw [HZ2.out, HE.out, lostErr_end F S k4 (by omega)]
                  go_wp2
                  go_ret
                  exact ⟨ret_int HV.out.symm, hbw⟩

theorem rcheck_any (M : Mm) (v : Value) (w : World) (lo : Nat) (A : Ans lo w v M) :
    Calls Try.prog 30 #[v] w fun e w' => e = .returned (.int .i64 (chk M)) ∧ Below w.heap.size w w' := by
  obtain ⟨aS, aH, aF, aL, cS, cH, cF, cL, rfl, A, -⟩ := A
  obtain ⟨S, H, F, L, now⟩ := M
  have m1 := A.s.max; have m2 := A.h.max; have m4 := A.l.max
  dsimp only at m1 m2 m4
  have n1 : S.length ≤ 9223372036854775807 := by omega
  have n2 : H.length ≤ 9223372036854775807 := by omega
  have n3 : L.length ≤ 9223372036854775807 := by omega
  by_cases h0 : 12 < S.length
  · have e : chk ⟨S, H, F, L, now⟩ = 2 := by unfold chk; dsimp only; rw [if_pos (.inl h0)]
    rw [e]; exact rc_many1 S H F L now aS aH aF aL cS cH cF cL w n1 n2 n3 h0
  by_cases h1 : H.length < 1
  · have e : chk ⟨S, H, F, L, now⟩ = 2 := by unfold chk; dsimp only; rw [if_pos (.inr (.inl h1))]
    rw [e]; exact rc_many2 S H F L now aS aH aF aL cS cH cF cL w n1 n2 n3 (by omega) h1
  by_cases h2 : 4 < H.length
  · have e : chk ⟨S, H, F, L, now⟩ = 2 := by unfold chk; dsimp only; rw [if_pos (.inr (.inr h2))]
    rw [e]; exact rc_many3 S H F L now aS aH aF aL cS cH cF cL w n1 n2 n3 (by omega) (by omega) h2
  by_cases h3 : L.length = H.length
  rotate_left
  · have e : chk ⟨S, H, F, L, now⟩ = 4 := by unfold chk; dsimp only; rw [if_neg (by omega), if_pos h3]
    rw [e]; exact rc_form S H F L now aS aH aF aL cS cH cF cL w n1 n2 n3 (by omega) (by omega) (by omega) h3
  by_cases h4 : now < 0
  · have e : chk ⟨S, H, F, L, now⟩ = 3 := by unfold chk; dsimp only; rw [if_neg (by omega), if_neg (by simpa using h3), if_pos (inB_f1 h4)]
    rw [e]; exact rc_now1 S H F L now aS aH aF aL cS cH cF cL w n1 n2 n3 (by omega) (by omega) (by omega) h3 h4
  by_cases h5 : 1000000 < now
  · have e : chk ⟨S, H, F, L, now⟩ = 3 := by unfold chk; dsimp only; rw [if_neg (by omega), if_neg (by simpa using h3), if_pos (inB_f2 h5)]
    rw [e]; exact rc_now2 S H F L now aS aH aF aL cS cH cF cL w n1 n2 n3 (by omega) (by omega) (by omega) h3 (by omega) h5
  exact rc_main S H F L now aS aH aF aL cS cH cF cL w A (by omega) (by omega) (by omega) h3 (by omega) (by omega)





end Go.Proofs.Ytdbilofhcadmoac.mm
