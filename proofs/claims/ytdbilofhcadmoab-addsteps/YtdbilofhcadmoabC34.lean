/- The contract of the document's own CheckMem: it answers what Check answers. -/
import Derived.Test.YtdbilofhcadmoabC09
import Derived.Test.YtdbilofhcadmoabC06
import Derived.Deep.QuietTactic
import Derived.BigQuiet
import Derived.Test.YtdbilofhcadmoabC16
import Derived.Test.YtdbilofhcadmoabC13
import Derived.Deep.RegionWith
import Derived.Test.YtdbilofhcadmoabC11
import Derived.Test.YtdbilofhcadmoabC22
import Derived.Laws.AppendOwnNone
namespace Go.Proofs.Ytdbilofhcadmoab.mm
open Go.ChangeShapes Go.WideShapes Go.ChangeAt Go.RowKit Go.Maps
set_option linter.unusedVariables false

theorem drewN_below' (w : World) (q : Nat) : Below w.heap.size w (w.drewN q) := ⟨rfl, rfl, rfl, Nat.le_refl _, fun _ _ => rfl⟩

set_option maxRecDepth 100000 in
set_option maxHeartbeats 1600000 in
theorem rc_many1 (S : List Sl) (H F L : List Int) (now : Int) (aS aH aF aL : Option Addr) (cS cH cF cL : Nat) (w : World) (n1 : S.length ≤ 9223372036854775807) (n2 : H.length ≤ 9223372036854775807) (n3 : L.length ≤ 9223372036854775807) (h : 12 < S.length) :
    Calls Try.prog 89 #[.agg #[.slice aS S.length cS, .slice aH H.length cH, .slice aF F.length cF, .slice aL L.length cL, .int .i64 now]] w fun e w' => e = .returned (.int .i64 2) ∧ Below w.heap.size w w' := by
  go_enter Try.func89, Try.ntmps89
  go_wp2_with fail
  go_quiet (fail)
  go_wp2
  go_ret
  exact ⟨rfl, (one_below _ _).trans ((drewN_below' _ _).mono (by simp))⟩

set_option maxRecDepth 100000 in
set_option maxHeartbeats 1600000 in
theorem rc_many2 (S : List Sl) (H F L : List Int) (now : Int) (aS aH aF aL : Option Addr) (cS cH cF cL : Nat) (w : World) (n1 : S.length ≤ 9223372036854775807) (n2 : H.length ≤ 9223372036854775807) (n3 : L.length ≤ 9223372036854775807) (h0 : S.length ≤ 12) (h : H.length < 1) :
    Calls Try.prog 89 #[.agg #[.slice aS S.length cS, .slice aH H.length cH, .slice aF F.length cF, .slice aL L.length cL, .int .i64 now]] w fun e w' => e = .returned (.int .i64 2) ∧ Below w.heap.size w w' := by
  go_enter Try.func89, Try.ntmps89
  go_wp2_with fail
  go_quiet (fail)
  go_wp2
  go_ret
  exact ⟨rfl, (one_below _ _).trans ((drewN_below' _ _).mono (by simp))⟩

set_option maxRecDepth 100000 in
set_option maxHeartbeats 1600000 in
theorem rc_many3 (S : List Sl) (H F L : List Int) (now : Int) (aS aH aF aL : Option Addr) (cS cH cF cL : Nat) (w : World) (n1 : S.length ≤ 9223372036854775807) (n2 : H.length ≤ 9223372036854775807) (n3 : L.length ≤ 9223372036854775807) (h0 : S.length ≤ 12) (h1 : 1 ≤ H.length) (h : 4 < H.length) :
    Calls Try.prog 89 #[.agg #[.slice aS S.length cS, .slice aH H.length cH, .slice aF F.length cF, .slice aL L.length cL, .int .i64 now]] w fun e w' => e = .returned (.int .i64 2) ∧ Below w.heap.size w w' := by
  go_enter Try.func89, Try.ntmps89
  go_wp2_with fail
  go_quiet (fail)
  go_wp2
  go_ret
  exact ⟨rfl, (one_below _ _).trans ((drewN_below' _ _).mono (by simp))⟩

set_option maxRecDepth 100000 in
set_option maxHeartbeats 1600000 in
theorem rc_form (S : List Sl) (H F L : List Int) (now : Int) (aS aH aF aL : Option Addr) (cS cH cF cL : Nat) (w : World) (n1 : S.length ≤ 9223372036854775807) (n2 : H.length ≤ 9223372036854775807) (n3 : L.length ≤ 9223372036854775807) (h0 : S.length ≤ 12) (h1 : 1 ≤ H.length) (h2 : H.length ≤ 4) (h : L.length ≠ H.length) :
    Calls Try.prog 89 #[.agg #[.slice aS S.length cS, .slice aH H.length cH, .slice aF F.length cF, .slice aL L.length cL, .int .i64 now]] w fun e w' => e = .returned (.int .i64 4) ∧ Below w.heap.size w w' := by
  have hb : ((L.length : Int) != (H.length : Int)) = true := by rw [bne_iff_ne]; omega
  go_enter Try.func89, Try.ntmps89
  go_wp2_with fail
  go_quiet (fail)
  go_wp2
  go_ret
  exact ⟨rfl, (one_below _ _).trans ((drewN_below' _ _).mono (by simp))⟩

set_option maxRecDepth 100000 in
set_option maxHeartbeats 1600000 in
theorem rc_now1 (S : List Sl) (H F L : List Int) (now : Int) (aS aH aF aL : Option Addr) (cS cH cF cL : Nat) (w : World) (n1 : S.length ≤ 9223372036854775807) (n2 : H.length ≤ 9223372036854775807) (n3 : L.length ≤ 9223372036854775807) (h0 : S.length ≤ 12) (h1 : 1 ≤ H.length) (h2 : H.length ≤ 4) (h3 : L.length = H.length) (h : now < 0) :
    Calls Try.prog 89 #[.agg #[.slice aS S.length cS, .slice aH H.length cH, .slice aF F.length cF, .slice aL L.length cL, .int .i64 now]] w fun e w' => e = .returned (.int .i64 3) ∧ Below w.heap.size w w' := by
  have hb : ((L.length : Int) != (H.length : Int)) = false := by rw [h3]; simp
  clear h3
  go_enter Try.func89, Try.ntmps89
  go_wp2_with fail
  go_quiet (fail)
  go_wp2
  go_ret
  exact ⟨rfl, (one_below _ _).trans ((drewN_below' _ _).mono (by simp))⟩

set_option maxRecDepth 100000 in
set_option maxHeartbeats 1600000 in
theorem rc_now2 (S : List Sl) (H F L : List Int) (now : Int) (aS aH aF aL : Option Addr) (cS cH cF cL : Nat) (w : World) (n1 : S.length ≤ 9223372036854775807) (n2 : H.length ≤ 9223372036854775807) (n3 : L.length ≤ 9223372036854775807) (h0 : S.length ≤ 12) (h1 : 1 ≤ H.length) (h2 : H.length ≤ 4) (h3 : L.length = H.length) (h4 : 0 ≤ now) (h : 1000000 < now) :
    Calls Try.prog 89 #[.agg #[.slice aS S.length cS, .slice aH H.length cH, .slice aF F.length cF, .slice aL L.length cL, .int .i64 now]] w fun e w' => e = .returned (.int .i64 3) ∧ Below w.heap.size w w' := by
  have hb : ((L.length : Int) != (H.length : Int)) = false := by rw [h3]; simp
  clear h3
  go_enter Try.func89, Try.ntmps89
  go_wp2_with fail
  go_quiet (fail)
  go_wp2
  go_ret
  exact ⟨rfl, (one_below _ _).trans ((drewN_below' _ _).mono (by simp))⟩

theorem inB_f1 {x lo hi : Int} (h : x < lo) : inB x lo hi = false := by
  rw [Bool.eq_false_iff]; intro hh; rw [inB_iff] at hh; omega
theorem inB_f2 {x lo hi : Int} (h : hi < x) : inB x lo hi = false := by
  rw [Bool.eq_false_iff]; intro hh; rw [inB_iff] at hh; omega
theorem inB_t {x lo hi : Int} (h0 : lo ≤ x) (h1 : x ≤ hi) : inB x lo hi = true := (inB_iff _ _ _).2 ⟨h0, h1⟩

set_option maxRecDepth 100000 in
set_option maxHeartbeats 6400000 in
theorem rc_main (S : List Sl) (H F L : List Int) (now : Int) (aS aH aF aL : Option Addr) (cS cH cF cL : Nat) (w : World) (A : At w aS aH aF aL cS cH cF cL ⟨S, H, F, L, now⟩)
    (h0 : S.length ≤ 12) (h1 : 1 ≤ H.length) (h2 : H.length ≤ 4) (h3 : L.length = H.length) (h4 : 0 ≤ now) (h5 : now ≤ 1000000) :
    Calls Try.prog 89 #[.agg #[.slice aS S.length cS, .slice aH H.length cH, .slice aF F.length cF, .slice aL L.length cL, .int .i64 now]] w fun e w' => e = .returned (.int .i64 (chk ⟨S, H, F, L, now⟩)) ∧ Below w.heap.size w w' := by
  obtain ⟨Z, hZ⟩ : ∃ Z : Int, Z = chk ⟨S, H, F, L, now⟩ := ⟨_, rfl⟩
  have HC : Hid (Z = (if firstE (slotErr H.length S.length) S ≠ 0 then firstE (slotErr H.length S.length) S
      else if firstE (chainErr H.length S.length) (H.zip L) ≠ 0 then firstE (chainErr H.length S.length) (H.zip L)
      else if freeErr S [] F ≠ 0 then freeErr S [] F
      else lostErr F 0 S)) := by
    show _ = _
    rw [hZ]
    unfold chk
    dsimp only
    rw [if_neg (by omega), if_neg (by simpa using h3), if_neg (by rw [inB_t h4 h5]; simp)]
  rw [← hZ]
  clear hZ
  have HRS : Hid _ := A.s
  have HRH : Hid _ := A.h
  have HRF : Hid _ := A.f
  have HRL : Hid _ := A.l
  have m3 := A.f.max
  have n3 : F.length ≤ 9223372036854775807 := by dsimp only at m3; omega
  clear m3
  have hb : ((L.length : Int) != (H.length : Int)) = false := by rw [h3]; simp
  have HLH : Hid (L.length = H.length) := h3
  clear A h3
  obtain ⟨f, hf⟩ : ∃ f, f = slotErr H.length S.length := ⟨_, rfl⟩
  have HF : Hid (f = slotErr H.length S.length) := hf
  clear hf
  go_enter Try.func89, Try.ntmps89
  go_wp2_with fail
  go_quiet (fail)
  go_wp2
  go_loopw [46] (fun i wr => ∃ k : Nat, k ≤ S.length ∧ i = .int .i64 k ∧ Below (w.heap.size + 1) (w.alloc (.cells #[.slice aS S.length cS, .slice aH H.length cH, .slice aF F.length cF, .slice aL L.length cL, .int .i64 now] 25)) wr ∧ Hid (firstE f S = firstE f (S.drop k)))
    (fun i _ => S.length - (intOf i).toNat)
  case atStart => exact ⟨0, Nat.zero_le _, rfl, (drewN_below' _ _).mono (by simp), by show _ = _; rw [List.drop_zero]⟩
  case round =>
    obtain ⟨k, hk, rfl, hb1, HE⟩ := hrel
    have hbw : Below w.heap.size w wr := (one_below w _).trans (hb1.mono (by omega))
    obtain ⟨q0, q1, q2, q3, q4, q5⟩ := box_cells hb1
    have q6 : w.heap.size < wr.heap.size := q5
    by_cases hlt : k < S.length
    · rcases HRS.out.at_ with h0' | ⟨b, o, rfl, hc⟩
      · omega
      obtain ⟨c0, c1, c2, c3, c4, c5⟩ := hc k hlt
      have lt := cell_lt c0
      rw [← (bcell hbw).1 _ _ lt] at c0 c1 c2 c3 c4 c5
      clear hc
      generalize hs : S[k] = s at c0 c1 c2 c3 c4 c5
      obtain ⟨r, a, bb, u, i, nx⟩ := s
      dsimp only at c0 c1 c2 c3 c4 c5
      have HS : Hid (S[k] = ⟨r, a, bb, u, i, nx⟩) := hs
      clear hs
      have hbx := hbw.alloc hbw.size (.cells #[.int .i64 r, .int .i64 a, .int .i64 bb, .int .i64 u, .bool i, .int .i64 nx] 39)
      have hby := hb1.alloc q5 (.cells #[.int .i64 r, .int .i64 a, .int .i64 bb, .int .i64 u, .bool i, .int .i64 nx] 39)
      have bad : ∀ e : Int, e ≠ 0 → slotErr H.length S.length ⟨r, a, bb, u, i, nx⟩ = e → Z = e := fun e he hh => by
        have h1 : firstE f S = e := step_err hlt (by rw [HS.out, HF.out]; exact hh) he HE.out
        rw [HF.out] at h1
        rw [HC.out, h1, if_pos he]
      have HBAD : Hid _ := bad
      clear bad
      by_cases g1 : r < 0
      · have HV : Hid (Z = 3) := HBAD.out 3 (by decide) (by simp [slotErr, inB_f1 g1])
        go_wp2
        go_ret
        exact ⟨ret_int HV.out.symm, hbx⟩
      have g1' : 0 ≤ r := by omega
      by_cases g2 : 1000 < r
      · have HV : Hid (Z = 3) := HBAD.out 3 (by decide) (by simp [slotErr, inB_f2 g2])
        go_wp2
        go_ret
        exact ⟨ret_int HV.out.symm, hbx⟩
      have g2' : r ≤ 1000 := by omega
      by_cases g3 : u < 0
      · have HV : Hid (Z = 3) := HBAD.out 3 (by decide) (by simp [slotErr, inB_f1 g3])
        go_wp2
        go_ret
        exact ⟨ret_int HV.out.symm, hbx⟩
      have g3' : 0 ≤ u := by omega
      by_cases g4 : 2000000 < u
      · have HV : Hid (Z = 3) := HBAD.out 3 (by decide) (by simp [slotErr, inB_f2 g4])
        go_wp2
        go_ret
        exact ⟨ret_int HV.out.symm, hbx⟩
      have g4' : u ≤ 2000000 := by omega
      go_wp2_with fail
      refine (isKey_any a bb _).mono ?_
      rintro e w1 ⟨rfl, hb2⟩
      have hbx2 := hbx.trans (hb2.mono (by have := hbw.size; simp; omega))
      have hby2 := hby.trans (hb2.mono (by simp; omega))
      have s5 : w1.cell? ⟨wr.heap.size, 5, none⟩ = some (.int .i64 nx) := ((bcell hb2).1 _ _ (by simp)).trans (by simp)
      clear hb2 hbx hby c0 c1 c2 c3 c4 c5 q0 q1 q2 q3 q4
      cases g5 : keyB a bb
      · have HV : Hid (Z = 3) := HBAD.out 3 (by decide) (by simp [slotErr, g5])
        go_wp2
        go_ret
        exact ⟨ret_int HV.out.symm, hbx2⟩
      by_cases g6 : (S.length : Int) < nx
      · have HV : Hid (Z = 5) := HBAD.out 5 (by decide) (by simp [slotErr, inB_t g1' g2', inB_t g3' g4', g5, inB_f2 g6])
        go_wp2
        go_ret
        exact ⟨ret_int HV.out.symm, hbx2⟩
      have g6' : nx ≤ (S.length : Int) := by omega
      by_cases g7 : nx < -(H.length : Int)
      · have HV : Hid (Z = 5) := HBAD.out 5 (by decide) (by simp [slotErr, inB_t g1' g2', inB_t g3' g4', g5, inB_f1 g7])
        go_wp2
        go_ret
        exact ⟨ret_int HV.out.symm, hbx2⟩
      have g7' : -(H.length : Int) ≤ nx := by omega
      have HV : Hid (firstE f S = firstE f (S.drop (k + 1))) := step_ok hlt (by rw [HS.out, HF.out]; simp [slotErr, inB_t g1' g2', inB_t g3' g4', g5, inB_t g7' g6']) HE.out
      go_wp2
      go_roundw
      case rel => exact ⟨k + 1, by omega, by go_num, hby2, HV⟩
      case measure => simp [intOf]; omega
    · have HC2 : Hid (Z = (if firstE (chainErr H.length S.length) (H.zip L) ≠ 0 then firstE (chainErr H.length S.length) (H.zip L)
          else if freeErr S [] F ≠ 0 then freeErr S [] F
          else lostErr F 0 S)) := by
        show _ = _
        have h1 : firstE f S = 0 := by rw [HE.out, firstE_end f S k (by omega)]
        rw [HF.out] at h1
        rw [HC.out, h1, if_neg (by simp)]
      have HGOOD : Hid (∀ j (hj : j < S.length), 0 ≤ S[j].refs) := fun j hj => by
        have h1 : firstE f S = 0 := by rw [HE.out, firstE_end f S k (by omega)]
        have h2 := (firstE_zero f S).1 h1 S[j] (List.getElem_mem hj)
        rw [HF.out] at h2
        have : inB S[j].refs 0 1000 = true := by
          cases hh : inB S[j].refs 0 1000
          · simp [slotErr, hh] at h2
          · rfl
        exact ((inB_iff _ _ _).1 this).1
      clear HC HE HF
      obtain ⟨f, hf⟩ : ∃ f, f = chainErr H.length S.length := ⟨_, rfl⟩
      have HF : Hid (f = chainErr H.length S.length) := hf
      clear hf
      have HZL : Hid ((H.zip L).length = H.length) := by show _ = _; rw [List.length_zip]; have := HLH.out; omega
      obtain ⟨ZZ, hZZ⟩ : ∃ ZZ, ZZ = H.zip L := ⟨_, rfl⟩
      have HZZ : Hid (ZZ = H.zip L) := hZZ
      clear hZZ
      go_wp2
      go_loopw [87] (fun i wr => ∃ k : Nat, k ≤ H.length ∧ i = .int .i64 k ∧ Below (w.heap.size + 1) (w.alloc (.cells #[.slice aS S.length cS, .slice aH H.length cH, .slice aF F.length cF, .slice aL L.length cL, .int .i64 now] 25)) wr ∧ Hid (firstE f ZZ = firstE f (ZZ.drop k)))
        (fun i _ => H.length - (intOf i).toNat)
      case atStart => exact ⟨0, Nat.zero_le _, rfl, hb1, by show _ = _; rw [List.drop_zero]⟩
      case round =>
        clear q0 q1 q2 q3 q4 q5 q6 hbw hb1
        obtain ⟨k2, hk2, rfl, hb1, HE⟩ := hrel
        have hbw : Below w.heap.size w wr := (one_below w _).trans (hb1.mono (by omega))
        obtain ⟨q0, q1, q2, q3, q4, q5⟩ := box_cells hb1
        by_cases hlt2 : k2 < H.length
        · have hltL : k2 < L.length := by have := HLH.out; omega
          have hltZ : k2 < ZZ.length := by have := HZL.out; rw [HZZ.out]; omega
          rcases HRH.out.at_ with h0' | ⟨b, o, rfl, hc⟩
          · omega
          rcases HRL.out.at_ with h0' | ⟨b2, o2, rfl, hc2⟩
          · omega
          have c0 := hc k2 hlt2
          have d0 := hc2 k2 hltL
          have lt := cell_lt c0
          have lt2 := cell_lt d0
          rw [← (bcell hbw).1 _ _ lt] at c0
          rw [← (bcell hbw).1 _ _ lt2] at d0
          clear hc hc2
          generalize hx : H[k2] = x at c0
          generalize hy : L[k2] = y at d0
          have HS : Hid (ZZ[k2] = (x, y)) := by
            show _ = _
            have e : ZZ[k2]? = some (x, y) := by rw [HZZ.out, List.getElem?_zip_eq_some]; exact ⟨by rw [List.getElem?_eq_getElem hlt2, hx], by rw [List.getElem?_eq_getElem hltL, hy]⟩
            rw [List.getElem?_eq_getElem hltZ] at e
            exact Option.some.inj e
          clear hx hy
          have jl : (k2 : Int) < (L.length : Int) := by omega
          have bad : ∀ e : Int, e ≠ 0 → chainErr H.length S.length (x, y) = e → Z = e := fun e he hh => by
            have h1 : firstE f ZZ = e := step_err hltZ (by rw [HS.out, HF.out]; exact hh) he HE.out
            rw [HF.out, HZZ.out] at h1
            rw [HC2.out, h1, if_pos he]
          have HBAD : Hid _ := bad
          clear bad
          by_cases g1 : x = 0
          · have HV : Hid (Z = 5) := HBAD.out 5 (by decide) (by simp [chainErr, g1])
            subst g1
            go_wp2
            go_ret
            exact ⟨ret_int HV.out.symm, hbw⟩
          have g1' : (x == 0) = false := by simpa using g1
          by_cases g2 : (S.length : Int) < x
          · have HV : Hid (Z = 5) := HBAD.out 5 (by decide) (by simp [chainErr, inB_f2 g2])
            go_wp2
            go_ret
            exact ⟨ret_int HV.out.symm, hbw⟩
          have g2' : x ≤ (S.length : Int) := by omega
          by_cases g3 : x < -(H.length : Int)
          · have HV : Hid (Z = 5) := HBAD.out 5 (by decide) (by simp [chainErr, inB_f1 g3])
            go_wp2
            go_ret
            exact ⟨ret_int HV.out.symm, hbw⟩
          have g3' : -(H.length : Int) ≤ x := by omega
          by_cases g4 : y < -1
          · have HV : Hid (Z = 3) := HBAD.out 3 (by decide) (by simp [chainErr, g1, inB_t g3' g2', inB_f1 g4])
            go_wp2
            go_ret
            exact ⟨ret_int HV.out.symm, hbw⟩
          have g4' : -1 ≤ y := by omega
          by_cases g5 : 4 < y
          · have HV : Hid (Z = 3) := HBAD.out 3 (by decide) (by simp [chainErr, g1, inB_t g3' g2', inB_f2 g5])
            go_wp2
            go_ret
            exact ⟨ret_int HV.out.symm, hbw⟩
          have g5' : y ≤ 4 := by omega
          have HV : Hid (firstE f ZZ = firstE f (ZZ.drop (k2 + 1))) := step_ok hltZ (by rw [HS.out, HF.out]; simp [chainErr, g1, inB_t g3' g2', inB_t g4' g5']) HE.out
          go_wp2
          go_roundw
          case rel => exact ⟨k2 + 1, by omega, by go_num, hb1, HV⟩
          case measure => simp [intOf]; omega
        · have HC3 : Hid (Z = (if freeErr S [] F ≠ 0 then freeErr S [] F else lostErr F 0 S)) := by
            show _ = _
            have h1 : firstE f ZZ = 0 := by rw [HE.out, firstE_end f ZZ k2 (by have := HZL.out; rw [HZZ.out]; omega)]
            rw [HF.out, HZZ.out] at h1
            rw [HC2.out, h1, if_neg (by simp)]
          clear HC2 HE HF HZL HZZ
          have hmm := @run_makeMap Try.prog
          have q6 : w.heap.size < wr.heap.size := q5
          go_wp2
          obtain ⟨G, hG⟩ : ∃ G, G = wr.heap.size := ⟨_, rfl⟩
          rw [← hG]
          have HST : Hid (SetAt (wr.alloc (.map #[] 0)) G []) := by rw [hG]; exact SetAt.made wr
          have hb2 := hb1.alloc q5 (.map #[] 0)
          have hGl : w.heap.size < G := by rw [hG]; exact q5
          clear hG hmm q0 q1 q2 q3 q4 q5 hbw hb1
          go_loopw [127] (fun i wr => ∃ k : Nat, k ≤ F.length ∧ i = .int .i64 k ∧ Below (w.heap.size + 1) (w.alloc (.cells #[.slice aS S.length cS, .slice aH H.length cH, .slice aF F.length cF, .slice aL L.length cL, .int .i64 now] 25)) wr ∧ SetAt wr G (F.take k) ∧ Hid (freeErr S [] F = freeErr S (F.take k) (F.drop k)))
            (fun i _ => F.length - (intOf i).toNat)
          case atStart => exact ⟨0, Nat.zero_le _, rfl, hb2, HST.out, by show _ = _; rw [List.drop_zero, List.take_zero]⟩
          case round =>
            obtain ⟨k3, hk3, rfl, hb1, hST, HE⟩ := hrel
            clear HST hb2
            have HST : Hid (SetAt wr G (F.take k3)) := hST
            clear hST
            have hbw : Below w.heap.size w wr := (one_below w _).trans (hb1.mono (by omega))
            obtain ⟨q0, q1, q2, q3, q4, q5⟩ := box_cells hb1
            by_cases hlt3 : k3 < F.length
            · rcases HRF.out.at_ with h0' | ⟨b, o, rfl, hc⟩
              · omega
              have c0 := hc k3 hlt3
              have lt := cell_lt c0
              rw [← (bcell hbw).1 _ _ lt] at c0
              clear hc
              generalize hx : F[k3] = x at c0
              have HX : Hid (F[k3] = x) := hx
              clear hx
              have bad5 : freeOk S x = false → Z = 5 := fun hh => by
                rw [HC3.out, ferr_step5 hlt3 (by rw [HX.out]; exact hh) HE.out]; rfl
              have HB5 : Hid _ := bad5
              clear bad5
              by_cases g1 : x < 0
              · have HV : Hid (Z = 5) := HB5.out (freeOk_no (inB_f1 g1))
                go_wp2
                go_ret
                exact ⟨ret_int HV.out.symm, hbw⟩
              have g1' : 0 ≤ x := by omega
              by_cases g2 : (S.length : Int) ≤ x
              · have HV : Hid (Z = 5) := HB5.out (freeOk_no (inB_f2 (by omega)))
                go_wp2
                go_ret
                exact ⟨ret_int HV.out.symm, hbw⟩
              have g2' : x < (S.length : Int) := by omega
              obtain ⟨j, rfl⟩ : ∃ j : Nat, x = j := ⟨x.toNat, by omega⟩
              have hj : j < S.length := by omega
              rcases HRS.out.at_ with h0' | ⟨b2, o2, rfl, hc2⟩
              · omega
              have d0 := (hc2 j hj).1
              have lt2 := cell_lt d0
              rw [← (bcell hbw).1 _ _ lt2] at d0
              clear hc2
              generalize hr : S[j].refs = r at d0
              have HOK : Hid (freeOk S (j : Int) = decide (r = 0)) := by
                show _ = _
                rw [freeOk_of hj rfl, hr]
              have HRP : Hid (0 ≤ r) := by
                have := HGOOD.out j hj
                show 0 ≤ r
                rw [← hr]; exact this
              clear hr
              by_cases g3 : 0 < r
              · have HV : Hid (Z = 5) := HB5.out (by rw [HOK.out]; simp; omega)
                go_wp2
                go_ret
                exact ⟨ret_int HV.out.symm, hbw⟩
              have g3' : r = 0 := by have := HRP.out; have : 0 ≤ r := this; omega
              subst g3'
              have hlk := HST.out.look (x := (j : Int)) (wf64 (by omega) (by omega))
              cases g4 : hasB (F.take k3) (j : Int)
              · rw [g4] at hlk
                have HV : Hid (freeErr S [] F = freeErr S (F.take (k3 + 1)) (F.drop (k3 + 1))) := ferr_step hlt3 (by rw [HX.out, HOK.out]; rfl) (by rw [HX.out]; exact g4) HE.out
                obtain ⟨nn, hnn, D, ho, hat⟩ := HST.out
                have HO : Hid (wr.ownsMap Try.prog 3 (plainElem Try.prog 4) G nn D) := ho
                have HAT : Hid _ := hat
                clear ho hat
                have HNN : Hid (nn ≤ (F.take k3).length) := hnn
                have hnl : nn ≤ k3 := by rw [List.length_take] at hnn; omega
                clear hnn
                go_wp2_with (at_mapUpdate; (refine wpList_mapUpdate_own (H := Unit) _ rfl _ _ _ 130 rfl 3 4 law3 under130 (plainElem Try.prog 4) G nn D rfl HO.out (by unfold maxLen; omega) _ _ (.int .i64 (j : Int)) rfl rfl (keyOf_int_mk Try.underlying3 (wf64 (by omega) (by omega))) (.lit (.bool true)) [] (plainElem_bool Try.underlying4 true) ?_; intro w9 ho9 hg9))
                go_roundw
                case rel => exact ⟨k3 + 1, by omega, by go_num, hb1.grown hg9 q5 (fun k h => by cases h; exact hGl), by rw [List.take_succ_eq_append_getElem hlt3, HX.out]; exact SetAt.put HNN.out HO.out HAT.out ho9, HV⟩
                case measure => simp [intOf]; omega
              · rw [g4] at hlk
                have HV : Hid (Z = 6) := by
                  show _ = _
                  rw [HC3.out, ferr_step6 hlt3 (by rw [HX.out, HOK.out]; rfl) (by rw [HX.out]; exact g4) HE.out]; rfl
                go_wp2
                go_ret
                exact ⟨ret_int HV.out.symm, hbw⟩
            · have HZ2 : Hid (Z = lostErr F 0 S) := by
                show _ = _
                rw [HC3.out, HE.out, freeErr_end S F k3 (by omega)]; rfl
              have HST2 : Hid (SetAt wr G F) := by
                have := HST.out
                rwa [List.take_of_length_le (by omega)] at this
              clear HC3 HE HST
              go_wp2
              go_loopw [156] (fun i wr => ∃ k : Nat, k ≤ S.length ∧ i = .int .i64 k ∧ Below (w.heap.size + 1) (w.alloc (.cells #[.slice aS S.length cS, .slice aH H.length cH, .slice aF F.length cF, .slice aL L.length cL, .int .i64 now] 25)) wr ∧ SetAt wr G F ∧ Hid (lostErr F 0 S = lostErr F k (S.drop k)))
                (fun i _ => S.length - (intOf i).toNat)
              case atStart => exact ⟨0, Nat.zero_le _, rfl, hb1, HST2.out, by show _ = _; rw [List.drop_zero]⟩
              case round =>
                clear q0 q1 q2 q3 q4 q5 hbw hb1 HST2
                obtain ⟨k4, hk4, rfl, hb1, hST, HE⟩ := hrel
                have HST : Hid (SetAt wr G F) := hST
                clear hST
                have hbw : Below w.heap.size w wr := (one_below w _).trans (hb1.mono (by omega))
                obtain ⟨q0, q1, q2, q3, q4, q5⟩ := box_cells hb1
                by_cases hlt4 : k4 < S.length
                · rcases HRS.out.at_ with h0' | ⟨b, o, rfl, hc⟩
                  · omega
                  obtain ⟨c0, c1, c2, c3, c4, c5⟩ := hc k4 hlt4
                  have lt := cell_lt c0
                  rw [← (bcell hbw).1 _ _ lt] at c0 c1 c2 c3 c4 c5
                  clear hc
                  generalize hs : S[k4] = s at c0 c1 c2 c3 c4 c5
                  obtain ⟨r, a, bb, u, i, nx⟩ := s
                  dsimp only at c0 c1 c2 c3 c4 c5
                  have HS : Hid (S[k4] = ⟨r, a, bb, u, i, nx⟩) := hs
                  clear hs
                  have hbx := hbw.alloc hbw.size (.cells #[.int .i64 r, .int .i64 a, .int .i64 bb, .int .i64 u, .bool i, .int .i64 nx] 39)
                  have hby := hb1.alloc q5 (.cells #[.int .i64 r, .int .i64 a, .int .i64 bb, .int .i64 u, .bool i, .int .i64 nx] 39)
                  have HST4 : Hid (SetAt (wr.alloc (.cells #[.int .i64 r, .int .i64 a, .int .i64 bb, .int .i64 u, .bool i, .int .i64 nx] 39)) G F) := HST.out.kept (Below.heap_alloc _ _ _ HST.out.lt)
                  have hlk := HST4.out.look (x := (k4 : Int)) (wf64 (by omega) (by omega))
                  by_cases g1 : r = 0
                  · subst g1
                    cases g2 : hasB F (k4 : Int)
                    · rw [g2] at hlk
                      have HV : Hid (Z = 4) := by
                        show _ = _
                        rw [HZ2.out, lost_step4 hlt4 (by rw [HS.out]) g2 HE.out]
                      go_wp2
                      go_ret
                      exact ⟨ret_int HV.out.symm, hbx⟩
                    · rw [g2] at hlk
                      have HV : Hid (lostErr F 0 S = lostErr F (k4 + 1) (S.drop (k4 + 1))) := lost_step hlt4 (.inr g2) HE.out
                      go_wp2
                      go_roundw
                      case rel => exact ⟨k4 + 1, by omega, by go_num, hby, HST4.out, HV⟩
                      case measure => simp [intOf]; omega
                  · have g1' : (r == 0) = false := by simpa using g1
                    have HV : Hid (lostErr F 0 S = lostErr F (k4 + 1) (S.drop (k4 + 1))) := lost_step hlt4 (.inl (by rw [HS.out]; exact g1)) HE.out
                    clear hlk
                    go_wp2
                    go_roundw
                    case rel => exact ⟨k4 + 1, by omega, by go_num, hby, HST4.out, HV⟩
                    case measure => simp [intOf]; omega
                · have HV : Hid (Z = 0) := by
                    show _ = _
                    rw [HZ2.out, HE.out, lostErr_end F S k4 (by omega)]
                  go_wp2
                  go_ret
                  exact ⟨ret_int HV.out.symm, hbw⟩

theorem rcheck_any (M : Mm) (v : Value) (w : World) (lo : Nat) (A : Ans lo w v M) :
    Calls Try.prog 89 #[v] w fun e w' => e = .returned (.int .i64 (chk M)) ∧ Below w.heap.size w w' := by
  obtain ⟨aS, aH, aF, aL, cS, cH, cF, cL, rfl, A, -⟩ := A
  obtain ⟨S, H, F, L, now⟩ := M
  have m1 := A.s.max; have m2 := A.h.max; have m4 := A.l.max
  dsimp only at m1 m2 m4
  have n1 : S.length ≤ 9223372036854775807 := by omega
  have n2 : H.length ≤ 9223372036854775807 := by omega
  have n3 : L.length ≤ 9223372036854775807 := by omega
  by_cases h0 : 12 < S.length
  · have e : chk ⟨S, H, F, L, now⟩ = 2 := by unfold chk; dsimp only; rw [if_pos (.inl h0)]
    rw [e]; exact rc_many1 S H F L now aS aH aF aL cS cH cF cL w n1 n2 n3 h0
  by_cases h1 : H.length < 1
  · have e : chk ⟨S, H, F, L, now⟩ = 2 := by unfold chk; dsimp only; rw [if_pos (.inr (.inl h1))]
    rw [e]; exact rc_many2 S H F L now aS aH aF aL cS cH cF cL w n1 n2 n3 (by omega) h1
  by_cases h2 : 4 < H.length
  · have e : chk ⟨S, H, F, L, now⟩ = 2 := by unfold chk; dsimp only; rw [if_pos (.inr (.inr h2))]
    rw [e]; exact rc_many3 S H F L now aS aH aF aL cS cH cF cL w n1 n2 n3 (by omega) (by omega) h2
  by_cases h3 : L.length = H.length
  rotate_left
  · have e : chk ⟨S, H, F, L, now⟩ = 4 := by unfold chk; dsimp only; rw [if_neg (by omega), if_pos h3]
    rw [e]; exact rc_form S H F L now aS aH aF aL cS cH cF cL w n1 n2 n3 (by omega) (by omega) (by omega) h3
  by_cases h4 : now < 0
  · have e : chk ⟨S, H, F, L, now⟩ = 3 := by unfold chk; dsimp only; rw [if_neg (by omega), if_neg (by simpa using h3), if_pos (inB_f1 h4)]
    rw [e]; exact rc_now1 S H F L now aS aH aF aL cS cH cF cL w n1 n2 n3 (by omega) (by omega) (by omega) h3 h4
  by_cases h5 : 1000000 < now
  · have e : chk ⟨S, H, F, L, now⟩ = 3 := by unfold chk; dsimp only; rw [if_neg (by omega), if_neg (by simpa using h3), if_pos (inB_f2 h5)]
    rw [e]; exact rc_now2 S H F L now aS aH aF aL cS cH cF cL w n1 n2 n3 (by omega) (by omega) (by omega) h3 (by omega) h5
  exact rc_main S H F L now aS aH aF aL cS cH cF cL w A (by omega) (by omega) (by omega) h3 (by omega) (by omega)



end Go.Proofs.Ytdbilofhcadmoab.mm

/- The contract of fits. -/
namespace Go.Proofs.Ytdbilofhcadmoab.mm
open Go.ChangeShapes Go.WideShapes Go.ChangeAt Go.RowKit Go.Joins Go.Deep
set_option maxRecDepth 100000
set_option linter.unusedVariables false

def fitB (M : Mm) (f : Fr) : Bool := chk M == 0 && frE M.slots.length M.heads.length f == 0
theorem fitB_iff {M : Mm} {f : Fr} : fitB M f = true ↔ Ok M ∧ Fit M f := by
  unfold fitB
  rw [Bool.and_eq_true, beq_iff_eq, beq_iff_eq, chk_zero, fit_iff]

set_option maxHeartbeats 1600000 in
theorem fits_any (M : Mm) (f : Fr) (v : Value) (aK : Option Addr) (cK : Nat) (w : World) (A : Ans 0 w v M) (hk : f.keys.length ≤ 9223372036854775807) :
    Calls Try.prog 34 #[v, .agg #[.int .i64 f.c.kind, .int .i64 f.c.a, .int .i64 f.c.b, .int .i64 f.c.time, .int .i64 f.c.bk, .int .i64 f.c.slot, .int .i64 f.pl, .int .i64 f.cur, .int .i64 f.prev, .int .i64 f.slot, .int .i64 f.n, .slice aK f.keys.length cK, .bool f.done, .int .i64 f.e]] w fun e w' => e = .returned (.bool (fitB M f)) ∧ Below w.heap.size w w' := by
  have HC : Hid (∀ W : World, Below w.heap.size w W → Calls Try.prog 89 #[v] W fun e w' => e = .returned (.int .i64 (chk M)) ∧ Below W.heap.size W w') := fun W hb => rcheck_any M v W 0 (A.below hb)
  obtain ⟨aS, aH, aF, aL, cS, cH, cF, cL, rfl⟩ := A.form
  have m1 := A.at_.s.max; have m2 := A.at_.h.max
  have HF : Hid (∀ W : World, Calls Try.prog 27 #[.agg #[.slice aS M.slots.length cS, .slice aH M.heads.length cH, .slice aF M.free.length cF, .slice aL M.locks.length cL, .int .i64 M.now], .agg #[.int .i64 f.c.kind, .int .i64 f.c.a, .int .i64 f.c.b, .int .i64 f.c.time, .int .i64 f.c.bk, .int .i64 f.c.slot, .int .i64 f.pl, .int .i64 f.cur, .int .i64 f.prev, .int .i64 f.slot, .int .i64 f.n, .slice aK f.keys.length cK, .bool f.done, .int .i64 f.e]] W fun e w' => e = .returned (.int .i64 (frE M.slots.length M.heads.length f)) ∧ Below W.heap.size W w') := fun W => rfrCheck_any aS aH aF aL _ _ _ _ cS cH cF cL M.now f aK cK W (by omega) (by omega) hk
  unfold fitB
  obtain ⟨om, hom⟩ : ∃ o : Obj, o = .cells #[.slice aS M.slots.length cS, .slice aH M.heads.length cH, .slice aF M.free.length cF, .slice aL M.locks.length cL, .int .i64 M.now] 25 := ⟨_, rfl⟩
  obtain ⟨of, hof⟩ : ∃ o : Obj, o = .cells #[.int .i64 f.c.kind, .int .i64 f.c.a, .int .i64 f.c.b, .int .i64 f.c.time, .int .i64 f.c.bk, .int .i64 f.c.slot, .int .i64 f.pl, .int .i64 f.cur, .int .i64 f.prev, .int .i64 f.slot, .int .i64 f.n, .slice aK f.keys.length cK, .bool f.done, .int .i64 f.e] 51 := ⟨_, rfl⟩
  have HE0 : Hid (Env w ((w.alloc om).alloc of) [((w.alloc om).heap.size, of), (w.heap.size, om)] []) := ((⟨Below.refl _ _, (fun p hp => by cases hp), (fun p hp => by cases hp)⟩ : Env w w [] []).alloc om).alloc of
  rw [show (w.alloc om).heap.size = w.heap.size + 1 by simp] at HE0
  clear A m1 m2 hk
  generalize frE M.slots.length M.heads.length f = E2 at *
  generalize chk M = E1 at *
  have HBk : Hid (∀ W : World, Env w W [(w.heap.size + 1, of), (w.heap.size, om)] [] → W.heap[w.heap.size]? = some (.cells #[.slice aS M.slots.length cS, .slice aH M.heads.length cH, .slice aF M.free.length cF, .slice aL M.locks.length cL, .int .i64 M.now] 25 (0, 0)) ∧ W.heap[w.heap.size + 1]? = some (.cells #[.int .i64 f.c.kind, .int .i64 f.c.a, .int .i64 f.c.b, .int .i64 f.c.time, .int .i64 f.c.bk, .int .i64 f.c.slot, .int .i64 f.pl, .int .i64 f.cur, .int .i64 f.prev, .int .i64 f.slot, .int .i64 f.n, .slice aK f.keys.length cK, .bool f.done, .int .i64 f.e] 51 (0, 0))) := fun W E => ⟨hom ▸ E.box _ (.tail _ (.head _)), hof ▸ E.box _ (.head _)⟩
  have HC0 : Hid (Calls Try.prog 89 #[.agg #[.slice aS M.slots.length cS, .slice aH M.heads.length cH, .slice aF M.free.length cF, .slice aL M.locks.length cL, .int .i64 M.now]] ((w.alloc om).alloc of) fun e w' => e = .returned (.int .i64 E1) ∧ Below ((w.alloc om).alloc of).heap.size ((w.alloc om).alloc of) w') := HC.out _ HE0.out.bl
  obtain ⟨q0, q1, q2, q3, q4, -, -, -, -, -, qs⟩ := boxf (HBk.out _ HE0.out).1
  obtain ⟨f0, f1, f2, f3, f4, f5, f6, f7, f8, f9, f10, f11, f12, f13, -, fs⟩ := framef (HBk.out _ HE0.out).2
  clear HC
  by_cases h1 : E1 = 0
  · subst h1
    have hres : ((0 : Int) == 0 && E2 == 0) = (E2 == 0) := by simp
    rw [hres]
    clear hres
    go_enter Try.func34, Try.ntmps34
    go_wp2_with fail
    rw [← hom, ← hof]
    generalize (w.alloc om).alloc of = W0 at *
    clear hom hof q0 q1 q2 q3 q4 qs f0 f1 f2 f3 f4 f5 f6 f7 f8 f9 f10 f11 f12 f13 fs
    refine HC0.out.mono ?_
    rintro e w1 ⟨rfl, hb1⟩
    have HE1 : Hid _ := HE0.out.below hb1
    clear HE0 hb1 HC0
    obtain ⟨q0, q1, q2, q3, q4, -, -, -, -, -, qs⟩ := boxf (HBk.out _ HE1.out).1
    obtain ⟨f0, f1, f2, f3, f4, f5, f6, f7, f8, f9, f10, f11, f12, f13, -, fs⟩ := framef (HBk.out _ HE1.out).2
    go_wp2_with fail
    clear q0 q1 q2 q3 q4 qs f0 f1 f2 f3 f4 f5 f6 f7 f8 f9 f10 f11 f12 f13 fs
    refine (HF.out w1).mono ?_
    rintro e w2 ⟨rfl, hb2⟩
    have HE2 : Hid _ := HE1.out.below hb2
    go_wp2
    go_ret
    exact ⟨rfl, HE2.out.bl⟩
  · have h1' : (E1 == 0) = false := by simpa using h1
    have hres : (E1 == 0 && E2 == 0) = false := by rw [h1']; rfl
    rw [hres]
    clear hres
    go_enter Try.func34, Try.ntmps34
    go_wp2_with fail
    rw [← hom, ← hof]
    generalize (w.alloc om).alloc of = W0 at *
    clear hom hof q0 q1 q2 q3 q4 qs f0 f1 f2 f3 f4 f5 f6 f7 f8 f9 f10 f11 f12 f13 fs
    refine HC0.out.mono ?_
    rintro e w1 ⟨rfl, hb1⟩
    have HE1 : Hid _ := HE0.out.below hb1
    clear HE0 hb1 HC0
    go_wp2
    go_ret
    exact ⟨rfl, HE1.out.bl⟩

end Go.Proofs.Ytdbilofhcadmoab.mm

/- The contract of the document's own OwnMem: a copy in memory of its own, whatever order its literal is reckoned in. -/
namespace Go.Proofs.Ytdbilofhcadmoab.mm
open Go.ChangeShapes Go.WideShapes Go.ChangeAt Go.RowKit Go.Joins Go.Maps
set_option maxRecDepth 100000
set_option linter.unusedVariables false

def upd (L : Nat → Bool) (i : Nat) : Nat → Bool := fun k => if k = i then true else L k
def updv (x : Nat → Value) (d : Nat) (v : Value) : Nat → Value := fun k => if k = d then v else x k

theorem dj_of {a b c d : Value} {p q : Bool} (h : Dj (if p then a else b) (if q then c else d)) (hp : p = false) (hq : q = false) : Dj b d := by
  subst hp hq; exact h
theorem dj_oftf {a b c d : Value} {p q : Bool} (h : Dj (if p then a else b) (if q then c else d)) (hp : p = true) (hq : q = false) : Dj a d := by
  subst hp hq; exact h
theorem dj_offt {a b c d : Value} {p q : Bool} (h : Dj (if p then a else b) (if q then c else d)) (hp : p = false) (hq : q = true) : Dj b c := by
  subst hp hq; exact h

/- What holds when these operations have come up. -/
structure Fx (w0 : World) (M : Mm) (aS aH aF aL : Option Addr) (cS cH cF cL : Nat) (L : Nat → Bool) (x : Nat → Value) (W : World) : Prop where
  box : W.heap[w0.heap.size]? = some (.cells #[.slice aS M.slots.length cS, .slice aH M.heads.length cH, .slice aF M.free.length cF, .slice aL M.locks.length cL, .int .i64 M.now] 25 (0, 0))
  zb : L 19 = false → W.heap[w0.heap.size + 1]? = some (.cells #[.slice none 0 0, .slice none 0 0, .slice none 0 0, .slice none 0 0, .int .i64 0] 25 (0, 0))
  fb : L 19 = true → W.heap[w0.heap.size + 1]? = some (.cells #[x 6, x 10, x 14, x 18, .int .i64 M.now] 25 (0, 0))
  below : Below w0.heap.size w0 W
  p1 : L 1 = true → x 4 = .pointer (some ⟨w0.heap.size, 0, none⟩)
  p2 : L 2 = true → x 5 = .slice aS M.slots.length cS
  p5 : L 5 = true → x 8 = .pointer (some ⟨w0.heap.size, 1, none⟩)
  p6 : L 6 = true → x 9 = .slice aH M.heads.length cH
  p9 : L 9 = true → x 12 = .pointer (some ⟨w0.heap.size, 2, none⟩)
  p10 : L 10 = true → x 13 = .slice aF M.free.length cF
  p13 : L 13 = true → x 16 = .pointer (some ⟨w0.heap.size, 3, none⟩)
  p14 : L 14 = true → x 17 = .slice aL M.locks.length cL
  p16 : L 16 = true → x 19 = .pointer (some ⟨w0.heap.size, 4, none⟩)
  p17 : L 17 = true → x 20 = .int .i64 M.now
  b18 : L 18 = true → x 21 = .agg #[x 6, x 10, x 14, x 18, .int .i64 M.now]
  r0 : L 0 = true → L 3 = false → W.ownsRow (w0.heap.size + 2) 39 6 (x 3) 0 []
  r3 : L 3 = true → W.ownsRow (w0.heap.size + 2) 39 6 (x 6) M.slots.length (encS M.slots)
  r4 : L 4 = true → L 7 = false → W.ownsRow (w0.heap.size + 2) 3 1 (x 7) 0 []
  r7 : L 7 = true → W.ownsRow (w0.heap.size + 2) 3 1 (x 10) M.heads.length (encI M.heads)
  r8 : L 8 = true → L 11 = false → W.ownsRow (w0.heap.size + 2) 3 1 (x 11) 0 []
  r11 : L 11 = true → W.ownsRow (w0.heap.size + 2) 3 1 (x 14) M.free.length (encI M.free)
  r12 : L 12 = true → L 15 = false → W.ownsRow (w0.heap.size + 2) 3 1 (x 15) 0 []
  r15 : L 15 = true → W.ownsRow (w0.heap.size + 2) 3 1 (x 18) M.locks.length (encI M.locks)
  d12 : L 4 = true → L 8 = true → Dj (if L 7 then x 10 else x 7) (if L 11 then x 14 else x 11)
  d13 : L 4 = true → L 12 = true → Dj (if L 7 then x 10 else x 7) (if L 15 then x 18 else x 15)
  d23 : L 8 = true → L 12 = true → Dj (if L 11 then x 14 else x 11) (if L 15 then x 18 else x 15)
  e3 : L 3 = true → L 0 = true
  e7 : L 7 = true → L 4 = true
  e11 : L 11 = true → L 8 = true
  e15 : L 15 = true → L 12 = true
  e18 : L 18 = true → L 3 = true ∧ L 7 = true ∧ L 11 = true ∧ L 15 = true
  e19 : L 19 = true → L 18 = true

theorem Fx.a1 {w0 : World} {M : Mm} {aS aH aF aL : Option Addr} {cS cH cF cL : Nat} {L : Nat → Bool} {x : Nat → Value} {W : World} (F : Fx w0 M aS aH aF aL cS cH cF cL L x W) : Fx w0 M aS aH aF aL cS cH cF cL (upd L 1) (updv x 4 (.pointer (some ⟨w0.heap.size, 0, none⟩))) W :=
  ⟨F.box, F.zb, F.fb, F.below, (fun _ => rfl), F.p2, F.p5, F.p6, F.p9, F.p10, F.p13, F.p14, F.p16, F.p17, F.b18, F.r0, F.r3, F.r4, F.r7, F.r8, F.r11, F.r12, F.r15, F.d12, F.d13, F.d23, F.e3, F.e7, F.e11, F.e15, F.e18, F.e19⟩
theorem Fx.a2 {w0 : World} {M : Mm} {aS aH aF aL : Option Addr} {cS cH cF cL : Nat} {L : Nat → Bool} {x : Nat → Value} {W : World} (F : Fx w0 M aS aH aF aL cS cH cF cL L x W) : Fx w0 M aS aH aF aL cS cH cF cL (upd L 2) (updv x 5 (.slice aS M.slots.length cS)) W :=
  ⟨F.box, F.zb, F.fb, F.below, F.p1, (fun _ => rfl), F.p5, F.p6, F.p9, F.p10, F.p13, F.p14, F.p16, F.p17, F.b18, F.r0, F.r3, F.r4, F.r7, F.r8, F.r11, F.r12, F.r15, F.d12, F.d13, F.d23, F.e3, F.e7, F.e11, F.e15, F.e18, F.e19⟩
theorem Fx.a5 {w0 : World} {M : Mm} {aS aH aF aL : Option Addr} {cS cH cF cL : Nat} {L : Nat → Bool} {x : Nat → Value} {W : World} (F : Fx w0 M aS aH aF aL cS cH cF cL L x W) : Fx w0 M aS aH aF aL cS cH cF cL (upd L 5) (updv x 8 (.pointer (some ⟨w0.heap.size, 1, none⟩))) W :=
  ⟨F.box, F.zb, F.fb, F.below, F.p1, F.p2, (fun _ => rfl), F.p6, F.p9, F.p10, F.p13, F.p14, F.p16, F.p17, F.b18, F.r0, F.r3, F.r4, F.r7, F.r8, F.r11, F.r12, F.r15, F.d12, F.d13, F.d23, F.e3, F.e7, F.e11, F.e15, F.e18, F.e19⟩
theorem Fx.a6 {w0 : World} {M : Mm} {aS aH aF aL : Option Addr} {cS cH cF cL : Nat} {L : Nat → Bool} {x : Nat → Value} {W : World} (F : Fx w0 M aS aH aF aL cS cH cF cL L x W) : Fx w0 M aS aH aF aL cS cH cF cL (upd L 6) (updv x 9 (.slice aH M.heads.length cH)) W :=
  ⟨F.box, F.zb, F.fb, F.below, F.p1, F.p2, F.p5, (fun _ => rfl), F.p9, F.p10, F.p13, F.p14, F.p16, F.p17, F.b18, F.r0, F.r3, F.r4, F.r7, F.r8, F.r11, F.r12, F.r15, F.d12, F.d13, F.d23, F.e3, F.e7, F.e11, F.e15, F.e18, F.e19⟩
theorem Fx.a9 {w0 : World} {M : Mm} {aS aH aF aL : Option Addr} {cS cH cF cL : Nat} {L : Nat → Bool} {x : Nat → Value} {W : World} (F : Fx w0 M aS aH aF aL cS cH cF cL L x W) : Fx w0 M aS aH aF aL cS cH cF cL (upd L 9) (updv x 12 (.pointer (some ⟨w0.heap.size, 2, none⟩))) W :=
  ⟨F.box, F.zb, F.fb, F.below, F.p1, F.p2, F.p5, F.p6, (fun _ => rfl), F.p10, F.p13, F.p14, F.p16, F.p17, F.b18, F.r0, F.r3, F.r4, F.r7, F.r8, F.r11, F.r12, F.r15, F.d12, F.d13, F.d23, F.e3, F.e7, F.e11, F.e15, F.e18, F.e19⟩
theorem Fx.a10 {w0 : World} {M : Mm} {aS aH aF aL : Option Addr} {cS cH cF cL : Nat} {L : Nat → Bool} {x : Nat → Value} {W : World} (F : Fx w0 M aS aH aF aL cS cH cF cL L x W) : Fx w0 M aS aH aF aL cS cH cF cL (upd L 10) (updv x 13 (.slice aF M.free.length cF)) W :=
  ⟨F.box, F.zb, F.fb, F.below, F.p1, F.p2, F.p5, F.p6, F.p9, (fun _ => rfl), F.p13, F.p14, F.p16, F.p17, F.b18, F.r0, F.r3, F.r4, F.r7, F.r8, F.r11, F.r12, F.r15, F.d12, F.d13, F.d23, F.e3, F.e7, F.e11, F.e15, F.e18, F.e19⟩
theorem Fx.a13 {w0 : World} {M : Mm} {aS aH aF aL : Option Addr} {cS cH cF cL : Nat} {L : Nat → Bool} {x : Nat → Value} {W : World} (F : Fx w0 M aS aH aF aL cS cH cF cL L x W) : Fx w0 M aS aH aF aL cS cH cF cL (upd L 13) (updv x 16 (.pointer (some ⟨w0.heap.size, 3, none⟩))) W :=
  ⟨F.box, F.zb, F.fb, F.below, F.p1, F.p2, F.p5, F.p6, F.p9, F.p10, (fun _ => rfl), F.p14, F.p16, F.p17, F.b18, F.r0, F.r3, F.r4, F.r7, F.r8, F.r11, F.r12, F.r15, F.d12, F.d13, F.d23, F.e3, F.e7, F.e11, F.e15, F.e18, F.e19⟩
theorem Fx.a14 {w0 : World} {M : Mm} {aS aH aF aL : Option Addr} {cS cH cF cL : Nat} {L : Nat → Bool} {x : Nat → Value} {W : World} (F : Fx w0 M aS aH aF aL cS cH cF cL L x W) : Fx w0 M aS aH aF aL cS cH cF cL (upd L 14) (updv x 17 (.slice aL M.locks.length cL)) W :=
  ⟨F.box, F.zb, F.fb, F.below, F.p1, F.p2, F.p5, F.p6, F.p9, F.p10, F.p13, (fun _ => rfl), F.p16, F.p17, F.b18, F.r0, F.r3, F.r4, F.r7, F.r8, F.r11, F.r12, F.r15, F.d12, F.d13, F.d23, F.e3, F.e7, F.e11, F.e15, F.e18, F.e19⟩
theorem Fx.a16 {w0 : World} {M : Mm} {aS aH aF aL : Option Addr} {cS cH cF cL : Nat} {L : Nat → Bool} {x : Nat → Value} {W : World} (F : Fx w0 M aS aH aF aL cS cH cF cL L x W) : Fx w0 M aS aH aF aL cS cH cF cL (upd L 16) (updv x 19 (.pointer (some ⟨w0.heap.size, 4, none⟩))) W :=
  ⟨F.box, F.zb, F.fb, F.below, F.p1, F.p2, F.p5, F.p6, F.p9, F.p10, F.p13, F.p14, (fun _ => rfl), F.p17, F.b18, F.r0, F.r3, F.r4, F.r7, F.r8, F.r11, F.r12, F.r15, F.d12, F.d13, F.d23, F.e3, F.e7, F.e11, F.e15, F.e18, F.e19⟩
theorem Fx.a17 {w0 : World} {M : Mm} {aS aH aF aL : Option Addr} {cS cH cF cL : Nat} {L : Nat → Bool} {x : Nat → Value} {W : World} (F : Fx w0 M aS aH aF aL cS cH cF cL L x W) : Fx w0 M aS aH aF aL cS cH cF cL (upd L 17) (updv x 20 (.int .i64 M.now)) W :=
  ⟨F.box, F.zb, F.fb, F.below, F.p1, F.p2, F.p5, F.p6, F.p9, F.p10, F.p13, F.p14, F.p16, (fun _ => rfl), F.b18, F.r0, F.r3, F.r4, F.r7, F.r8, F.r11, F.r12, F.r15, F.d12, F.d13, F.d23, F.e3, F.e7, F.e11, F.e15, F.e18, F.e19⟩

theorem Fx.lt {w0 : World} {M : Mm} {aS aH aF aL : Option Addr} {cS cH cF cL : Nat} {L : Nat → Bool} {x : Nat → Value} {W : World} (F : Fx w0 M aS aH aF aL cS cH cF cL L x W) : w0.heap.size + 1 < W.heap.size := by
  cases h : L 19
  · exact lt_of_block (F.zb h)
  · exact lt_of_block (F.fb h)
theorem own_lit (W : World) (e : TypeId) (size lo : Nat) (h : lo ≤ W.heap.size) : (W.alloc (.cells #[] e)).ownsRow lo e size (.slice (some ⟨W.heap.size, 0, none⟩) 0 0) 0 [] :=
  ⟨by simp, .inr ⟨W.heap.size, 0, #[], rfl, h, heap_alloc_new _ _, Nat.le_refl _, Nat.zero_le _, by simp, by simp⟩⟩
theorem Dj.fresh {W : World} {v : Value} (hv : ∀ g, v.ownBlock = some g → g < W.heap.size) : Dj v (.slice (some ⟨W.heap.size, 0, none⟩) 0 0) := fun g h e => by
  have h1 := hv g h
  have e' : some W.heap.size = some g := e
  injection e' with e'
  omega
theorem Fx.lt1 {w0 : World} {M : Mm} {aS aH aF aL : Option Addr} {cS cH cF cL : Nat} {L : Nat → Bool} {x : Nat → Value} {W : World} (F : Fx w0 M aS aH aF aL cS cH cF cL L x W) (h : L 4 = true) : ∀ g, (if L 7 then x 10 else x 7).ownBlock = some g → g < W.heap.size := by
  cases h3 : L 7
  · exact fun g hg => ((F.r4 h h3).lt g hg).2
  · exact fun g hg => ((F.r7 h3).lt g hg).2
theorem Fx.lt2 {w0 : World} {M : Mm} {aS aH aF aL : Option Addr} {cS cH cF cL : Nat} {L : Nat → Bool} {x : Nat → Value} {W : World} (F : Fx w0 M aS aH aF aL cS cH cF cL L x W) (h : L 8 = true) : ∀ g, (if L 11 then x 14 else x 11).ownBlock = some g → g < W.heap.size := by
  cases h3 : L 11
  · exact fun g hg => ((F.r8 h h3).lt g hg).2
  · exact fun g hg => ((F.r11 h3).lt g hg).2
theorem Fx.lt3 {w0 : World} {M : Mm} {aS aH aF aL : Option Addr} {cS cH cF cL : Nat} {L : Nat → Bool} {x : Nat → Value} {W : World} (F : Fx w0 M aS aH aF aL cS cH cF cL L x W) (h : L 12 = true) : ∀ g, (if L 15 then x 18 else x 15).ownBlock = some g → g < W.heap.size := by
  cases h3 : L 15
  · exact fun g hg => ((F.r12 h h3).lt g hg).2
  · exact fun g hg => ((F.r15 h3).lt g hg).2
theorem Fx.a18 {w0 : World} {M : Mm} {aS aH aF aL : Option Addr} {cS cH cF cL : Nat} {L : Nat → Bool} {x : Nat → Value} {W : World} (F : Fx w0 M aS aH aF aL cS cH cF cL L x W) (h3 : L 3 = true) (h7 : L 7 = true) (h11 : L 11 = true) (h15 : L 15 = true) : Fx w0 M aS aH aF aL cS cH cF cL (upd L 18) (updv x 21 (.agg #[x 6, x 10, x 14, x 18, .int .i64 M.now])) W :=
  ⟨F.box, F.zb, F.fb, F.below, F.p1, F.p2, F.p5, F.p6, F.p9, F.p10, F.p13, F.p14, F.p16, F.p17, (fun _ => rfl), F.r0, F.r3, F.r4, F.r7, F.r8, F.r11, F.r12, F.r15, F.d12, F.d13, F.d23, F.e3, F.e7, F.e11, F.e15, (fun _ => ⟨h3, h7, h11, h15⟩), (fun _ => rfl)⟩
theorem Fx.b0 {w0 : World} {M : Mm} {aS aH aF aL : Option Addr} {cS cH cF cL : Nat} {L : Nat → Bool} {x : Nat → Value} {W : World} (F : Fx w0 M aS aH aF aL cS cH cF cL L x W) (hn : L 0 = false) : Fx w0 M aS aH aF aL cS cH cF cL (upd L 0) (updv x 3 (.slice (some ⟨W.heap.size, 0, none⟩) 0 0)) (W.alloc (.cells #[] 39)) := by
  have hf : L 3 = false := by
    cases h : L 3
    · rfl
    · rw [F.e3 h] at hn; cases hn
  exact ⟨((Below.heap_alloc _ _ _ (lt_of_block F.box)).trans F.box), (fun h => (Below.heap_alloc _ _ _ (lt_of_block (F.zb h))).trans (F.zb h)), (fun h => (Below.heap_alloc _ _ _ (lt_of_block (F.fb h))).trans (F.fb h)), (F.below.alloc F.below.size _), F.p1, F.p2, F.p5, F.p6, F.p9, F.p10, F.p13, F.p14, F.p16, F.p17, F.b18, (fun _ _ => own_lit W 39 6 _ F.lt), (fun h => World.ownsRow.alloc (F.r3 h) _), (fun h h3 => World.ownsRow.alloc (F.r4 h h3) _), (fun h => World.ownsRow.alloc (F.r7 h) _), (fun h h3 => World.ownsRow.alloc (F.r8 h h3) _), (fun h => World.ownsRow.alloc (F.r11 h) _), (fun h h3 => World.ownsRow.alloc (F.r12 h h3) _), (fun h => World.ownsRow.alloc (F.r15 h) _), F.d12, F.d13, F.d23, (fun _ => rfl), F.e7, F.e11, F.e15, F.e18, F.e19⟩
theorem Fx.b4 {w0 : World} {M : Mm} {aS aH aF aL : Option Addr} {cS cH cF cL : Nat} {L : Nat → Bool} {x : Nat → Value} {W : World} (F : Fx w0 M aS aH aF aL cS cH cF cL L x W) (hn : L 4 = false) : Fx w0 M aS aH aF aL cS cH cF cL (upd L 4) (updv x 7 (.slice (some ⟨W.heap.size, 0, none⟩) 0 0)) (W.alloc (.cells #[] 3)) := by
  have hf : L 7 = false := by
    cases h : L 7
    · rfl
    · rw [F.e7 h] at hn; cases hn
  exact ⟨((Below.heap_alloc _ _ _ (lt_of_block F.box)).trans F.box), (fun h => (Below.heap_alloc _ _ _ (lt_of_block (F.zb h))).trans (F.zb h)), (fun h => (Below.heap_alloc _ _ _ (lt_of_block (F.fb h))).trans (F.fb h)), (F.below.alloc F.below.size _), F.p1, F.p2, F.p5, F.p6, F.p9, F.p10, F.p13, F.p14, F.p16, F.p17, F.b18, (fun h h3 => World.ownsRow.alloc (F.r0 h h3) _), (fun h => World.ownsRow.alloc (F.r3 h) _), (fun _ _ => own_lit W 3 1 _ F.lt), (fun h => World.ownsRow.alloc (F.r7 h) _), (fun h h3 => World.ownsRow.alloc (F.r8 h h3) _), (fun h => World.ownsRow.alloc (F.r11 h) _), (fun h h3 => World.ownsRow.alloc (F.r12 h h3) _), (fun h => World.ownsRow.alloc (F.r15 h) _), (fun _ hb => (by have := (Dj.fresh (F.lt2 hb)).symm; show Dj (if L 7 then _ else _) _; rw [hf]; exact this)), (fun _ hb => (by have := (Dj.fresh (F.lt3 hb)).symm; show Dj (if L 7 then _ else _) _; rw [hf]; exact this)), F.d23, F.e3, (fun _ => rfl), F.e11, F.e15, F.e18, F.e19⟩
theorem Fx.b8 {w0 : World} {M : Mm} {aS aH aF aL : Option Addr} {cS cH cF cL : Nat} {L : Nat → Bool} {x : Nat → Value} {W : World} (F : Fx w0 M aS aH aF aL cS cH cF cL L x W) (hn : L 8 = false) : Fx w0 M aS aH aF aL cS cH cF cL (upd L 8) (updv x 11 (.slice (some ⟨W.heap.size, 0, none⟩) 0 0)) (W.alloc (.cells #[] 3)) := by
  have hf : L 11 = false := by
    cases h : L 11
    · rfl
    · rw [F.e11 h] at hn; cases hn
  exact ⟨((Below.heap_alloc _ _ _ (lt_of_block F.box)).trans F.box), (fun h => (Below.heap_alloc _ _ _ (lt_of_block (F.zb h))).trans (F.zb h)), (fun h => (Below.heap_alloc _ _ _ (lt_of_block (F.fb h))).trans (F.fb h)), (F.below.alloc F.below.size _), F.p1, F.p2, F.p5, F.p6, F.p9, F.p10, F.p13, F.p14, F.p16, F.p17, F.b18, (fun h h3 => World.ownsRow.alloc (F.r0 h h3) _), (fun h => World.ownsRow.alloc (F.r3 h) _), (fun h h3 => World.ownsRow.alloc (F.r4 h h3) _), (fun h => World.ownsRow.alloc (F.r7 h) _), (fun _ _ => own_lit W 3 1 _ F.lt), (fun h => World.ownsRow.alloc (F.r11 h) _), (fun h h3 => World.ownsRow.alloc (F.r12 h h3) _), (fun h => World.ownsRow.alloc (F.r15 h) _), (fun ha _ => (by have := Dj.fresh (F.lt1 ha); show Dj _ (if L 11 then _ else _); rw [hf]; exact this)), F.d13, (fun _ hb => (by have := (Dj.fresh (F.lt3 hb)).symm; show Dj (if L 11 then _ else _) _; rw [hf]; exact this)), F.e3, F.e7, (fun _ => rfl), F.e15, F.e18, F.e19⟩
theorem Fx.b12 {w0 : World} {M : Mm} {aS aH aF aL : Option Addr} {cS cH cF cL : Nat} {L : Nat → Bool} {x : Nat → Value} {W : World} (F : Fx w0 M aS aH aF aL cS cH cF cL L x W) (hn : L 12 = false) : Fx w0 M aS aH aF aL cS cH cF cL (upd L 12) (updv x 15 (.slice (some ⟨W.heap.size, 0, none⟩) 0 0)) (W.alloc (.cells #[] 3)) := by
  have hf : L 15 = false := by
    cases h : L 15
    · rfl
    · rw [F.e15 h] at hn; cases hn
  exact ⟨((Below.heap_alloc _ _ _ (lt_of_block F.box)).trans F.box), (fun h => (Below.heap_alloc _ _ _ (lt_of_block (F.zb h))).trans (F.zb h)), (fun h => (Below.heap_alloc _ _ _ (lt_of_block (F.fb h))).trans (F.fb h)), (F.below.alloc F.below.size _), F.p1, F.p2, F.p5, F.p6, F.p9, F.p10, F.p13, F.p14, F.p16, F.p17, F.b18, (fun h h3 => World.ownsRow.alloc (F.r0 h h3) _), (fun h => World.ownsRow.alloc (F.r3 h) _), (fun h h3 => World.ownsRow.alloc (F.r4 h h3) _), (fun h => World.ownsRow.alloc (F.r7 h) _), (fun h h3 => World.ownsRow.alloc (F.r8 h h3) _), (fun h => World.ownsRow.alloc (F.r11 h) _), (fun _ _ => own_lit W 3 1 _ F.lt), (fun h => World.ownsRow.alloc (F.r15 h) _), F.d12, (fun ha _ => (by have := Dj.fresh (F.lt1 ha); show Dj _ (if L 15 then _ else _); rw [hf]; exact this)), (fun ha _ => (by have := Dj.fresh (F.lt2 ha); show Dj _ (if L 15 then _ else _); rw [hf]; exact this)), F.e3, F.e7, F.e11, (fun _ => rfl), F.e18, F.e19⟩
theorem Fx.c3 {w0 : World} {M : Mm} {aS aH aF aL : Option Addr} {cS cH cF cL : Nat} {L : Nat → Bool} {x : Nat → Value} {W : World} (F : Fx w0 M aS aH aF aL cS cH cF cL L x W) (hl : L 0 = true) (hf : L 3 = false) {v : Value} {W' : World} (ho2 : W'.ownsRow (w0.heap.size + 2) 39 6 v M.slots.length (encS M.slots)) (hg : W.grownBy W' (x 3).ownBlock) (hloc : v.ownBlock = (x 3).ownBlock ∨ v.ownBlock = some W.heap.size) : Fx w0 M aS aH aF aL cS cH cF cL (upd L 3) (updv x 6 v) W' := by
  have ho := F.r0 hl hf
  have h18 : L 18 = true → false = true := fun h => by
    obtain ⟨h3, h7, h11, h15⟩ := F.e18 h
    rw [← hf]; assumption
  exact ⟨((hg.block _ (lt_of_block F.box) (fun h => own_ne ho F.box (by decide) h.symm)).trans F.box), (fun h => (hg.block _ (lt_of_block (F.zb h)) (fun h1 => own_ne ho (F.zb h) (by decide) h1.symm)).trans (F.zb h)), (fun h => absurd (h18 (F.e19 h)) (by simp)), (F.below.grown hg F.below.size (fun k hk => by have := (ho.lt k hk).1; omega)), F.p1, F.p2, F.p5, F.p6, F.p9, F.p10, F.p13, F.p14, F.p16, F.p17, (fun h => absurd (h18 h) (by simp)), (fun _ h => by cases h), (fun _ => ho2), (fun h h3 => World.ownsRow.kept (F.r4 h h3) hg (own_dj (F.r4 h h3) ho (by decide)).ne), (fun h => World.ownsRow.kept (F.r7 h) hg (own_dj (F.r7 h) ho (by decide)).ne), (fun h h3 => World.ownsRow.kept (F.r8 h h3) hg (own_dj (F.r8 h h3) ho (by decide)).ne), (fun h => World.ownsRow.kept (F.r11 h) hg (own_dj (F.r11 h) ho (by decide)).ne), (fun h h3 => World.ownsRow.kept (F.r12 h h3) hg (own_dj (F.r12 h h3) ho (by decide)).ne), (fun h => World.ownsRow.kept (F.r15 h) hg (own_dj (F.r15 h) ho (by decide)).ne), F.d12, F.d13, F.d23, (fun _ => hl), F.e7, F.e11, F.e15, (fun h => absurd (h18 h) (by simp)), F.e19⟩
theorem Fx.c7 {w0 : World} {M : Mm} {aS aH aF aL : Option Addr} {cS cH cF cL : Nat} {L : Nat → Bool} {x : Nat → Value} {W : World} (F : Fx w0 M aS aH aF aL cS cH cF cL L x W) (hl : L 4 = true) (hf : L 7 = false) {v : Value} {W' : World} (ho2 : W'.ownsRow (w0.heap.size + 2) 3 1 v M.heads.length (encI M.heads)) (hg : W.grownBy W' (x 7).ownBlock) (hloc : v.ownBlock = (x 7).ownBlock ∨ v.ownBlock = some W.heap.size) : Fx w0 M aS aH aF aL cS cH cF cL (upd L 7) (updv x 10 v) W' := by
  have ho := F.r4 hl hf
  have h18 : L 18 = true → false = true := fun h => by
    obtain ⟨h3, h7, h11, h15⟩ := F.e18 h
    rw [← hf]; assumption
  exact ⟨((hg.block _ (lt_of_block F.box) (fun h => own_ne ho F.box (by decide) h.symm)).trans F.box), (fun h => (hg.block _ (lt_of_block (F.zb h)) (fun h1 => own_ne ho (F.zb h) (by decide) h1.symm)).trans (F.zb h)), (fun h => absurd (h18 (F.e19 h)) (by simp)), (F.below.grown hg F.below.size (fun k hk => by have := (ho.lt k hk).1; omega)), F.p1, F.p2, F.p5, F.p6, F.p9, F.p10, F.p13, F.p14, F.p16, F.p17, (fun h => absurd (h18 h) (by simp)), (fun h h3 => World.ownsRow.kept (F.r0 h h3) hg (own_dj (F.r0 h h3) ho (by decide)).ne), (fun h => World.ownsRow.kept (F.r3 h) hg (own_dj (F.r3 h) ho (by decide)).ne), (fun _ h => by cases h), (fun _ => ho2), (fun h h3 => World.ownsRow.kept (F.r8 h h3) hg (dj_of (F.d12 hl h) hf h3).symm.ne), (fun h => World.ownsRow.kept (F.r11 h) hg (dj_offt (F.d12 hl (F.e11 h)) hf h).symm.ne), (fun h h3 => World.ownsRow.kept (F.r12 h h3) hg (dj_of (F.d13 hl h) hf h3).symm.ne), (fun h => World.ownsRow.kept (F.r15 h) hg (dj_offt (F.d13 hl (F.e15 h)) hf h).symm.ne), (fun _ hb => (by have hd := (F.d12 hl hb).symm; rw [hf] at hd; exact (Dj.grown hd (F.lt2 hb) hloc).symm)), (fun _ hb => (by have hd := (F.d13 hl hb).symm; rw [hf] at hd; exact (Dj.grown hd (F.lt3 hb) hloc).symm)), F.d23, F.e3, (fun _ => hl), F.e11, F.e15, (fun h => absurd (h18 h) (by simp)), F.e19⟩
theorem Fx.c11 {w0 : World} {M : Mm} {aS aH aF aL : Option Addr} {cS cH cF cL : Nat} {L : Nat → Bool} {x : Nat → Value} {W : World} (F : Fx w0 M aS aH aF aL cS cH cF cL L x W) (hl : L 8 = true) (hf : L 11 = false) {v : Value} {W' : World} (ho2 : W'.ownsRow (w0.heap.size + 2) 3 1 v M.free.length (encI M.free)) (hg : W.grownBy W' (x 11).ownBlock) (hloc : v.ownBlock = (x 11).ownBlock ∨ v.ownBlock = some W.heap.size) : Fx w0 M aS aH aF aL cS cH cF cL (upd L 11) (updv x 14 v) W' := by
  have ho := F.r8 hl hf
  have h18 : L 18 = true → false = true := fun h => by
    obtain ⟨h3, h7, h11, h15⟩ := F.e18 h
    rw [← hf]; assumption
  exact ⟨((hg.block _ (lt_of_block F.box) (fun h => own_ne ho F.box (by decide) h.symm)).trans F.box), (fun h => (hg.block _ (lt_of_block (F.zb h)) (fun h1 => own_ne ho (F.zb h) (by decide) h1.symm)).trans (F.zb h)), (fun h => absurd (h18 (F.e19 h)) (by simp)), (F.below.grown hg F.below.size (fun k hk => by have := (ho.lt k hk).1; omega)), F.p1, F.p2, F.p5, F.p6, F.p9, F.p10, F.p13, F.p14, F.p16, F.p17, (fun h => absurd (h18 h) (by simp)), (fun h h3 => World.ownsRow.kept (F.r0 h h3) hg (own_dj (F.r0 h h3) ho (by decide)).ne), (fun h => World.ownsRow.kept (F.r3 h) hg (own_dj (F.r3 h) ho (by decide)).ne), (fun h h3 => World.ownsRow.kept (F.r4 h h3) hg (dj_of (F.d12 h hl) h3 hf).ne), (fun h => World.ownsRow.kept (F.r7 h) hg (dj_oftf (F.d12 (F.e7 h) hl) h hf).ne), (fun _ h => by cases h), (fun _ => ho2), (fun h h3 => World.ownsRow.kept (F.r12 h h3) hg (dj_of (F.d23 hl h) hf h3).symm.ne), (fun h => World.ownsRow.kept (F.r15 h) hg (dj_offt (F.d23 hl (F.e15 h)) hf h).symm.ne), (fun ha _ => (by have hd := F.d12 ha hl; rw [hf] at hd; exact Dj.grown hd (F.lt1 ha) hloc)), F.d13, (fun _ hb => (by have hd := (F.d23 hl hb).symm; rw [hf] at hd; exact (Dj.grown hd (F.lt3 hb) hloc).symm)), F.e3, F.e7, (fun _ => hl), F.e15, (fun h => absurd (h18 h) (by simp)), F.e19⟩
theorem Fx.c15 {w0 : World} {M : Mm} {aS aH aF aL : Option Addr} {cS cH cF cL : Nat} {L : Nat → Bool} {x : Nat → Value} {W : World} (F : Fx w0 M aS aH aF aL cS cH cF cL L x W) (hl : L 12 = true) (hf : L 15 = false) {v : Value} {W' : World} (ho2 : W'.ownsRow (w0.heap.size + 2) 3 1 v M.locks.length (encI M.locks)) (hg : W.grownBy W' (x 15).ownBlock) (hloc : v.ownBlock = (x 15).ownBlock ∨ v.ownBlock = some W.heap.size) : Fx w0 M aS aH aF aL cS cH cF cL (upd L 15) (updv x 18 v) W' := by
  have ho := F.r12 hl hf
  have h18 : L 18 = true → false = true := fun h => by
    obtain ⟨h3, h7, h11, h15⟩ := F.e18 h
    rw [← hf]; assumption
  exact ⟨((hg.block _ (lt_of_block F.box) (fun h => own_ne ho F.box (by decide) h.symm)).trans F.box), (fun h => (hg.block _ (lt_of_block (F.zb h)) (fun h1 => own_ne ho (F.zb h) (by decide) h1.symm)).trans (F.zb h)), (fun h => absurd (h18 (F.e19 h)) (by simp)), (F.below.grown hg F.below.size (fun k hk => by have := (ho.lt k hk).1; omega)), F.p1, F.p2, F.p5, F.p6, F.p9, F.p10, F.p13, F.p14, F.p16, F.p17, (fun h => absurd (h18 h) (by simp)), (fun h h3 => World.ownsRow.kept (F.r0 h h3) hg (own_dj (F.r0 h h3) ho (by decide)).ne), (fun h => World.ownsRow.kept (F.r3 h) hg (own_dj (F.r3 h) ho (by decide)).ne), (fun h h3 => World.ownsRow.kept (F.r4 h h3) hg (dj_of (F.d13 h hl) h3 hf).ne), (fun h => World.ownsRow.kept (F.r7 h) hg (dj_oftf (F.d13 (F.e7 h) hl) h hf).ne), (fun h h3 => World.ownsRow.kept (F.r8 h h3) hg (dj_of (F.d23 h hl) h3 hf).ne), (fun h => World.ownsRow.kept (F.r11 h) hg (dj_oftf (F.d23 (F.e11 h) hl) h hf).ne), (fun _ h => by cases h), (fun _ => ho2), F.d12, (fun ha _ => (by have hd := F.d13 ha hl; rw [hf] at hd; exact Dj.grown hd (F.lt1 ha) hloc)), (fun ha _ => (by have hd := F.d23 ha hl; rw [hf] at hd; exact Dj.grown hd (F.lt2 ha) hloc)), F.e3, F.e7, F.e11, (fun _ => hl), (fun h => absurd (h18 h) (by simp)), F.e19⟩
theorem Fx.s19 {w0 : World} {M : Mm} {aS aH aF aL : Option Addr} {cS cH cF cL : Nat} {L : Nat → Bool} {x : Nat → Value} {W : World} (F : Fx w0 M aS aH aF aL cS cH cF cL L x W) (hl : L 18 = true) (hf : L 19 = false) : Fx w0 M aS aH aF aL cS cH cF cL (upd L 19) x (set5 W (w0.heap.size + 1) (x 6) (x 10) (x 14) (x 18) (.int .i64 M.now)) :=
  ⟨((set5_other (by omega)).trans F.box), (fun h => by cases h), (fun _ => set5_block (F.zb hf) _ _ _ _ _), (F.below.trans (set5_below _ _ _ _ _ _ _ _ (by omega))), F.p1, F.p2, F.p5, F.p6, F.p9, F.p10, F.p13, F.p14, F.p16, F.p17, F.b18, (fun h h3 => own_set5 (F.r0 h h3) (own_ne (F.r0 h h3) (F.zb hf) (by decide)) _ _ _ _ _), (fun h => own_set5 (F.r3 h) (own_ne (F.r3 h) (F.zb hf) (by decide)) _ _ _ _ _), (fun h h3 => own_set5 (F.r4 h h3) (own_ne (F.r4 h h3) (F.zb hf) (by decide)) _ _ _ _ _), (fun h => own_set5 (F.r7 h) (own_ne (F.r7 h) (F.zb hf) (by decide)) _ _ _ _ _), (fun h h3 => own_set5 (F.r8 h h3) (own_ne (F.r8 h h3) (F.zb hf) (by decide)) _ _ _ _ _), (fun h => own_set5 (F.r11 h) (own_ne (F.r11 h) (F.zb hf) (by decide)) _ _ _ _ _), (fun h h3 => own_set5 (F.r12 h h3) (own_ne (F.r12 h h3) (F.zb hf) (by decide)) _ _ _ _ _), (fun h => own_set5 (F.r15 h) (own_ne (F.r15 h) (F.zb hf) (by decide)) _ _ _ _ _), F.d12, F.d13, F.d23, F.e3, F.e7, F.e11, F.e15, F.e18, (fun _ => hl)⟩




end Go.Proofs.Ytdbilofhcadmoab.mm
