/- MemTakes' walk: for every memory, key, time and slot it answers true. -/
import Derived.Test.YtdbilofhcadmoaaRefT
import Derived.Test.YtdbilofhcadmoaaOwnW
import Derived.Test.YtdbilofhcadmoaaEnv
import Derived.Test.YtdbilofhcadmoaaFilled
import Derived.Test.YtdbilofhcadmoaaSame2
import Derived.Test.YtdbilofhcadmoaaRefB
namespace Go.Proofs.Ytdbilofhcadmoaa.mm
open Go.ChangeShapes Go.WideShapes Go.ChangeAt Go.RowKit Go.Joins Go.Deep
set_option maxRecDepth 100000
set_option linter.unusedVariables false

theorem taken_is {M MT : Mm} {ka kb u nT eT : Int} (h1 : MT = takenM M ka kb u) (h2 : nT = takenN M ka kb u) (h3 : eT = takenE M ka kb u) (v : Value) (w : World) (lo : Nat) (A : Ans lo w v M) :
    Calls Try.prog 21 #[v, .agg #[.int .i64 ka, .int .i64 kb], .int .i64 u] w fun e w' => ∃ v, e = .returned (.tuple #[v, .int .i64 nT, .int .i64 eT]) ∧ Ans w.heap.size w' v MT ∧ Below w.heap.size w w' := by
  subst h1 h2 h3; exact taken_any M v ka kb u w lo A
theorem held_is {M MH : Mm} {i eH : Int} (h1 : MH = heldM M i) (h3 : eH = heldE M i) (v : Value) (w : World) (lo : Nat) (A : Ans lo w v M) :
    Calls Try.prog 22 #[v, .int .i64 i] w fun e w' => ∃ v, e = .returned (.tuple #[v, .int .i64 eH]) ∧ Ans w.heap.size w' v MH ∧ Below w.heap.size w w' := by
  subst h1 h3; exact held_any M v i w lo A
theorem let_is {M ML : Mm} {i eL : Int} (h1 : ML = letM M i) (h3 : eL = letE M i) (v : Value) (w : World) (lo : Nat) (A : Ans lo w v M) :
    Calls Try.prog 23 #[v, .int .i64 i] w fun e w' => ∃ v, e = .returned (.tuple #[v, .int .i64 eL]) ∧ Ans w.heap.size w' v ML ∧ Below w.heap.size w w' := by
  subst h1 h3; exact let_any M v i w lo A
theorem rcheck_at {M : Mm} {c : Int} (h : c = chk M) (v : Value) (w : World) (lo : Nat) (A : Ans lo w v M) : Calls Try.prog 16 #[v] w fun e w' => e = .returned (.int .i64 c) ∧ Below w.heap.size w w' := by
  subst h; exact rcheck_any M v w lo A
theorem rsame_eq {A B : Mm} (h : A = B) {v1 v2 : Value} {w : World} {lo1 lo2 : Nat} (H1 : Ans lo1 w v1 A) (H2 : Ans lo2 w v2 B) : Calls Try.prog 18 #[v1, v2] w fun e w' => e = .returned (.bool true) ∧ Below w.heap.size w w' := by
  subst h
  have := rsame_any A A v1 v2 w lo1 lo2 H1 H2
  rwa [(eqM_iff A A).2 rfl] at this
theorem rtake_at {M MT : Mm} {ka kb u nT : Int} (h1 : MT = takeM M ka kb u) (h2 : nT = lastF M) (w : World) (B lo : Nat) (aS aH aF aL : Option Addr) (cS cH cF cL : Nat) (m : Mine w B lo aS aH aF aL cS cH cF cL M) (hF : 0 < M.free.length) (h0 : 0 ≤ lastF M) (h1' : lastF M < M.slots.length) (hm : M.free.length * 8 ≤ 140737488350000) :
    Calls Try.prog 25 #[.pointer (some ⟨B, 0, none⟩), .agg #[.int .i64 ka, .int .i64 kb], .int .i64 u] w fun e w' => e = .returned (.tuple #[.int .i64 nT, .bool true]) ∧ Now w w' B lo MT := by
  subst h1 h2; exact rtake_now M w B lo aS aH aF aL cS cH cF cL ka kb u m hF h0 h1' hm
theorem rhold_at {M MH : Mm} {i : Int} (h1 : MH = holdM M i) (w : World) (B lo : Nat) (aS aH aF aL : Option Addr) (cS cH cF cL : Nat) (m : Mine w B lo aS aH aF aL cS cH cF cL M) (h0 : 0 ≤ i) (h1' : i < M.slots.length) (hr : 0 < refsM M i) (hr1 : refsM M i < 1000) :
    Calls Try.prog 26 #[.pointer (some ⟨B, 0, none⟩), .int .i64 i] w fun e w' => e = .returned (.bool true) ∧ Now w w' B lo MH := by
  subst h1; exact rhold_now M w B lo aS aH aF aL cS cH cF cL i m h0 h1' hr hr1
theorem rput_at {M ML : Mm} {i : Int} (h1 : ML = putM M i) (w : World) (B lo : Nat) (aS aH aF aL : Option Addr) (cS cH cF cL : Nat) (m : Mine w B lo aS aH aF aL cS cH cF cL M) (h0 : 0 ≤ i) (h1' : i < M.slots.length) (hr : 0 < refsM M i) (hr1 : refsM M i ≤ 1000) (hm : M.free.length * 8 ≤ 140737488350000) :
    Calls Try.prog 27 #[.pointer (some ⟨B, 0, none⟩), .int .i64 i] w fun e w' => e = .returned (.tuple #[]) ∧ Now w w' B lo ML := by
  subst h1; exact rput_now M w B lo aS aH aF aL cS cH cF cL i m h0 h1' hr hr1 hm
theorem takes_bad {M : Mm} {ka kb u i : Int} (h : chk M ≠ 0) : takenE M ka kb u = chk M ∧ takenN M ka kb u = 0 ∧ takenM M ka kb u = m0 ∧ heldE M i = chk M ∧ heldM M i = m0 ∧ letE M i = chk M ∧ letM M i = m0 := by
  have h1 : takenE M ka kb u = chk M := by unfold takenE; rw [if_pos h]
  have h2 : heldE M i = chk M := by unfold heldE; rw [if_pos h]
  have h3 : letE M i = chk M := by unfold letE; rw [if_pos h]
  exact ⟨h1, by unfold takenN; rw [h1, if_neg h], by unfold takenM; rw [h1, if_neg h], h2, by unfold heldM; rw [h2, if_neg h], h3, by unfold letM; rw [h3, if_neg h]⟩
theorem takes_no {M : Mm} {ka kb u e : Int} (h : takenE M ka kb u = e) (he : e ≠ 0) : takenN M ka kb u = 0 ∧ takenM M ka kb u = m0 := by
  exact ⟨by unfold takenN; rw [h, if_neg he], by unfold takenM; rw [h, if_neg he]⟩

set_option maxHeartbeats 12800000 in
theorem takes_any (M : Mm) (v : Value) (ka kb u i : Int) (w : World) (A0 : Ans 0 w v M) (hu : -9223372036854775808 ≤ u ∧ u ≤ 9223372036854775807) (hi : -9223372036854775808 ≤ i ∧ i ≤ 9223372036854775807) :
    Calls Try.prog 5 #[v, .agg #[.int .i64 ka, .int .i64 kb], .int .i64 u, .int .i64 i] w fun e w' => e = .returned (.bool true) ∧ Below w.heap.size w w' := by
  obtain ⟨aS, aH, aF, aL, cS, cH, cF, cL, rfl⟩ := A0.form
  have m1 := A0.at_.s.max; have m2 := A0.at_.h.max; have m3 := A0.at_.f.max; have m4 := A0.at_.l.max
  obtain ⟨MT, hMT⟩ : ∃ x, x = takenM M ka kb u := ⟨_, rfl⟩
  obtain ⟨nT, hnT⟩ : ∃ x, x = takenN M ka kb u := ⟨_, rfl⟩
  obtain ⟨eT, heT⟩ : ∃ x, x = takenE M ka kb u := ⟨_, rfl⟩
  obtain ⟨MH, hMH⟩ : ∃ x, x = heldM M i := ⟨_, rfl⟩
  obtain ⟨eH, heH⟩ : ∃ x, x = heldE M i := ⟨_, rfl⟩
  obtain ⟨ML, hML⟩ : ∃ x, x = letM M i := ⟨_, rfl⟩
  obtain ⟨eL, heL⟩ : ∃ x, x = letE M i := ⟨_, rfl⟩
  obtain ⟨ck, hck⟩ : ∃ x, x = chk M := ⟨_, rfl⟩
  have HMT : Hid (MT = takenM M ka kb u) := hMT
  have HnT : Hid (nT = takenN M ka kb u) := hnT
  have HeT : Hid (eT = takenE M ka kb u) := heT
  have HMH : Hid (MH = heldM M i) := hMH
  have HeH : Hid (eH = heldE M i) := heH
  have HML : Hid (ML = letM M i) := hML
  have HeL : Hid (eL = letE M i) := heL
  have HCk : Hid (ck = chk M) := hck
  clear hMT hnT heT hMH heH hML heL hck
  obtain ⟨om, hom⟩ : ∃ o : Obj, o = .cells #[.slice aS M.slots.length cS, .slice aH M.heads.length cH, .slice aF M.free.length cF, .slice aL M.locks.length cL, .int .i64 M.now] 29 := ⟨_, rfl⟩
  obtain ⟨ok, hok⟩ : ∃ o : Obj, o = .cells #[.int .i64 ka, .int .i64 kb] 37 := ⟨_, rfl⟩
  have HE0 : Hid (Env w ((w.alloc om).alloc ok) _ _) := (((⟨Below.refl _ _, (fun p hp => by cases hp), (fun p hp => by cases hp)⟩ : Env w w [] []).add A0).alloc om).alloc ok
  rw [show (w.alloc om).heap.size = w.heap.size + 1 by simp] at HE0
  clear A0
  go_enter Try.func5, Try.ntmps5
  go_wp2_with fail
  rw [← hom, ← hok]
  generalize (w.alloc om).alloc ok = W0 at *
  subst hom hok
  refine (ownMem_any M aS aH aF aL cS cH cF cL W0 (HE0.out.ans (.head _)).at_).mono ?_
  rintro e w1 ⟨gS, gH, gF, gL, kS, kH, kF, kL, rfl, rw1, hb1⟩
  have HE1 : Hid _ := (HE0.out.below hb1).add (rw1.ans m1 m2 m3 m4)
  have HE1a : Hid _ := HE1.out.alloc (.cells #[.slice gS M.slots.length kS, .slice gH M.heads.length kH, .slice gF M.free.length kF, .slice gL M.locks.length kL, .int .i64 M.now] 29)
  clear HE0 hb1 rw1
  obtain ⟨k0, k1⟩ := keyf (HE1.out.box _ (.head _))
  have ks := HE1.out.lt (.head _)
  go_wp2_with fail
  generalize hX1 : w1.heap.size = X1 at *
  generalize w1.alloc (.cells #[.slice gS M.slots.length kS, .slice gH M.heads.length kH, .slice gF M.free.length kF, .slice gL M.locks.length kL, .int .i64 M.now] 29) = W1 at *
  clear k0 k1 ks
  clear HE1 hX1
  refine (taken_is HMT.out HnT.out HeT.out _ W1 0 (HE1a.out.ans (.head _))).mono ?_
  rintro e w2 ⟨v2, rfl, A2, hb2⟩
  obtain ⟨xS, xH, xF, xL, dS, dH, dF, dL, rfl⟩ := A2.form
  have HE2 : Hid _ := (HE1a.out.below hb2).add A2
  have HE2a : Hid _ := HE2.out.alloc (.cells #[.slice xS MT.slots.length dS, .slice xH MT.heads.length dH, .slice xF MT.free.length dF, .slice xL MT.locks.length dL, .int .i64 MT.now] 29)
  clear HE1a hb2 A2
  obtain ⟨p0, p1, p2, p3, p4, -, -, -, -, -, ps⟩ := boxf (HE2.out.box _ (.head _))
  go_wp2_with fail
  generalize hX2 : w2.heap.size = X2 at *
  generalize w2.alloc (.cells #[.slice xS MT.slots.length dS, .slice xH MT.heads.length dH, .slice xF MT.free.length dF, .slice xL MT.locks.length dL, .int .i64 MT.now] 29) = W2 at *
  clear p0 p1 p2 p3 p4 ps
  clear HE2 hX2
  refine (held_is HMH.out HeH.out _ W2 0 (HE2a.out.ans (.tail _ (.head _)))).mono ?_
  rintro e w3 ⟨v3, rfl, A3, hb3⟩
  obtain ⟨yS, yH, yF, yL, fS, fH, fF, fL, rfl⟩ := A3.form
  have HE3 : Hid _ := (HE2a.out.below hb3).add A3
  have HE3a : Hid _ := HE3.out.alloc (.cells #[.slice yS MH.slots.length fS, .slice yH MH.heads.length fH, .slice yF MH.free.length fF, .slice yL MH.locks.length fL, .int .i64 MH.now] 29)
  clear HE2a hb3 A3
  obtain ⟨p0, p1, p2, p3, p4, -, -, -, -, -, ps⟩ := boxf (HE3.out.box _ (.tail _ (.head _)))
  go_wp2_with fail
  generalize hX3 : w3.heap.size = X3 at *
  generalize w3.alloc (.cells #[.slice yS MH.slots.length fS, .slice yH MH.heads.length fH, .slice yF MH.free.length fF, .slice yL MH.locks.length fL, .int .i64 MH.now] 29) = W3 at *
  clear p0 p1 p2 p3 p4 ps
  clear HE3 hX3
  refine (let_is HML.out HeL.out _ W3 0 (HE3a.out.ans (.tail _ (.tail _ (.head _))))).mono ?_
  rintro e w4 ⟨v4, rfl, A4, hb4⟩
  obtain ⟨zS, zH, zF, zL, tS, tH, tF, tL, rfl⟩ := A4.form
  have HE4 : Hid _ := (HE3a.out.below hb4).add A4
  have HE4a : Hid _ := ((HE4.out.alloc (.cells #[.slice zS ML.slots.length tS, .slice zH ML.heads.length tH, .slice zF ML.free.length tF, .slice zL ML.locks.length tL, .int .i64 ML.now] 29)).alloc (.cells #[.slice none 0 0, .slice none 0 0, .slice none 0 0, .slice none 0 0, .int .i64 0] 29)).add (ans0 0 _)
  rw [show (w4.alloc (.cells #[.slice zS ML.slots.length tS, .slice zH ML.heads.length tH, .slice zF ML.free.length tF, .slice zL ML.locks.length tL, .int .i64 ML.now] 29)).heap.size = w4.heap.size + 1 by simp] at HE4a
  clear HE3a hb4 A4
  obtain ⟨p0, p1, p2, p3, p4, -, -, -, -, -, ps⟩ := boxf (HE4.out.box _ (.tail _ (.tail _ (.tail _ (.tail _ (.head _))))))
  go_wp2_with fail
  generalize hX4 : w4.heap.size = X4 at *
  generalize (w4.alloc (.cells #[.slice zS ML.slots.length tS, .slice zH ML.heads.length tH, .slice zF ML.free.length tF, .slice zL ML.locks.length tL, .int .i64 ML.now] 29)).alloc (.cells #[.slice none 0 0, .slice none 0 0, .slice none 0 0, .slice none 0 0, .int .i64 0] 29) = W4 at *
  clear p0 p1 p2 p3 p4 ps
  clear HE4 hX4
  refine (rcheck_at HCk.out _ W4 0 (HE4a.out.ans (.tail _ (.tail _ (.tail _ (.tail _ (.tail _ (.head _)))))))).mono ?_
  rintro e w5 ⟨rfl, hb5⟩
  have HE5 : Hid _ := HE4a.out.below hb5
  clear HE4a hb5
  go_wp2_with fail
  refine (filled_any w5).mono ?_
  rintro e w6 ⟨rfl, hb6⟩
  have HE6 : Hid _ := HE5.out.below hb6
  clear HE5 hb6
  obtain ⟨p0, p1, p2, p3, p4, -, -, -, -, -, ps⟩ := boxf (HE6.out.box _ (.tail _ (.tail _ (.tail _ (.tail _ (.head _))))))
  obtain ⟨q0, q1, q2, q3, q4, -, -, -, -, -, qs⟩ := boxf (HE6.out.box _ (.tail _ (.tail _ (.tail _ (.tail _ (.tail _ (.tail _ (.head _))))))))
  go_wp2_with fail
  clear p0 p1 p2 p3 p4 ps q0 q1 q2 q3 q4 qs
  refine (rsame_eq rfl (HE6.out.ans (.tail _ (.tail _ (.tail _ (.tail _ (.head _)))))) (HE6.out.ans (.tail _ (.tail _ (.tail _ (.tail _ (.tail _ (.head _)))))))).mono ?_
  rintro e w7 ⟨rfl, hb7⟩
  have HE7 : Hid _ := HE6.out.below hb7
  clear HE6 hb7
  by_cases hc : chk M = 0
  rotate_left
  · obtain ⟨b1, b2, b3, b4, b5, b6, b7⟩ := takes_bad (ka := ka) (kb := kb) (u := u) (i := i) hc
    have hck0 : ck ≠ 0 := by rw [HCk.out]; exact hc
    have hck1 : (ck != 0) = true := by simpa using hck0
    have e1 : eT = ck := HeT.out.trans (b1.trans HCk.out.symm)
    have e2 : nT = 0 := HnT.out.trans b2
    have e3 : eH = ck := HeH.out.trans (b4.trans HCk.out.symm)
    have e4 : eL = ck := HeL.out.trans (b6.trans HCk.out.symm)
    have HT0 : Hid (MT = m0) := HMT.out.trans b3
    have HH0 : Hid (MH = m0) := HMH.out.trans b5
    have HL0 : Hid (ML = m0) := HML.out.trans b7
    clear b1 b2 b3 b4 b5 b6 b7 hc
    subst e2
    rw [e1, e3, e4]
    clear e1 e3 e4 HeT HeH HeL HnT hck0
    obtain ⟨p0, p1, p2, p3, p4, -, -, -, -, -, ps⟩ := boxf (HE7.out.box _ (.tail _ (.tail _ (.tail _ (.head _)))))
    obtain ⟨q0, q1, q2, q3, q4, -, -, -, -, -, qs⟩ := boxf (HE7.out.box _ (.head _))
    go_wp2_with fail
    clear p0 p1 p2 p3 p4 ps q0 q1 q2 q3 q4 qs
    refine (rsame_eq HT0.out (HE7.out.ans (.tail _ (.tail _ (.tail _ (.head _))))) (HE7.out.ans (.head _))).mono ?_
    rintro e w8 ⟨rfl, hb8⟩
    have HE8 : Hid _ := HE7.out.below hb8
    clear HE7 hb8
    obtain ⟨p0, p1, p2, p3, p4, -, -, -, -, -, ps⟩ := boxf (HE8.out.box _ (.tail _ (.tail _ (.head _))))
    obtain ⟨q0, q1, q2, q3, q4, -, -, -, -, -, qs⟩ := boxf (HE8.out.box _ (.head _))
    go_wp2_with fail
    clear p0 p1 p2 p3 p4 ps q0 q1 q2 q3 q4 qs
    refine (rsame_eq HH0.out (HE8.out.ans (.tail _ (.tail _ (.head _)))) (HE8.out.ans (.head _))).mono ?_
    rintro e w9 ⟨rfl, hb9⟩
    have HE9 : Hid _ := HE8.out.below hb9
    clear HE8 hb9
    obtain ⟨p0, p1, p2, p3, p4, -, -, -, -, -, ps⟩ := boxf (HE9.out.box _ (.tail _ (.head _)))
    obtain ⟨q0, q1, q2, q3, q4, -, -, -, -, -, qs⟩ := boxf (HE9.out.box _ (.head _))
    go_wp2_with fail
    clear p0 p1 p2 p3 p4 ps q0 q1 q2 q3 q4 qs
    refine (rsame_eq HL0.out (HE9.out.ans (.tail _ (.head _))) (HE9.out.ans (.head _))).mono ?_
    rintro e w10 ⟨rfl, hb10⟩
    have HE10 : Hid _ := HE9.out.below hb10
    clear HE9 hb10
    go_wp2
    go_ret
    exact ⟨rfl, HE10.out.bl⟩
  have hM := (chk_zero M).1 hc
  have n1 := hM.ns
  have n2 := hM.few
  have HOk : Hid (Ok M) := hM
  have HC0 : Hid (chk M = 0) := hc
  have hck0 : ck = 0 := HCk.out.trans hc
  subst hck0
  clear hc hM HCk
  obtain ⟨q0, q1, q2, q3, q4, -, -, -, -, -, qs⟩ := boxf (HE7.out.box _ (.tail _ (.tail _ (.tail _ (.tail _ (.tail _ (.tail _ (.head _))))))))
  go_wp2_with fail
  clear q0 q1 q2 q3 q4 qs
  refine (ownMem_any M aS aH aF aL cS cH cF cL w7 (HE7.out.ans (.tail _ (.tail _ (.tail _ (.tail _ (.tail _ (.head _))))))).at_).mono ?_
  rintro e w8 ⟨gS', gH', gF', gL', kS', kH', kF', kL', rfl, rw8, hb8⟩
  have HM8 : Hid (Mine (w8.alloc (.cells #[.slice gS' M.slots.length kS', .slice gH' M.heads.length kH', .slice gF' M.free.length kF', .slice gL' M.locks.length kL', .int .i64 M.now] 29)) w8.heap.size w7.heap.size gS' gH' gF' gL' kS' kH' kF' kL' M) := Mine.made rw8 m1 m2 (by omega) m4
  have HZ8 : Hid (w7.heap.size ≤ w8.heap.size) := hb8.size
  have hbB : Below w7.heap.size w7 (w8.alloc (.cells #[.slice gS' M.slots.length kS', .slice gH' M.heads.length kH', .slice gF' M.free.length kF', .slice gL' M.locks.length kL', .int .i64 M.now] 29)) := hb8.trans ((one_below _ _).mono hb8.size)
  have HE8 : Hid _ := HE7.out.below hb8
  clear hb8 rw8
  obtain ⟨k0, k1⟩ := keyf (HE8.out.box _ (.tail _ (.tail _ (.tail _ (.tail _ (.tail _ (.head _)))))))
  have ks := HE8.out.lt (.tail _ (.tail _ (.tail _ (.tail _ (.tail _ (.head _))))))
  go_wp2_with fail
  generalize hB8 : w8.heap.size = B8 at *
  generalize w8.alloc (.cells #[.slice gS' M.slots.length kS', .slice gH' M.heads.length kH', .slice gF' M.free.length kF', .slice gL' M.locks.length kL', .int .i64 M.now] 29) = W8 at *
  clear HE8 hB8
  clear k0 k1 ks
  refine (isKey_any ka kb W8).mono ?_
  rintro e w9 ⟨rfl, hb9⟩
  have HM9 : Hid (Mine w9 B8 w7.heap.size gS' gH' gF' gL' kS' kH' kF' kL' M) := HM8.out.below hb9
  have b9 : Below w7.heap.size w7 w9 := hbB.trans (hb9.mono hbB.size)
  clear hbB hb9 HM8
  cases hK : keyB ka kb
  · have o1 : takenE M ka kb u = 3 := by unfold takenE; rw [if_neg (by simpa using HC0.out), if_pos hK]
    obtain ⟨o2, o3⟩ := takes_no o1 (by decide)
    have HT0 : Hid (MT = m0) := HMT.out.trans o3
    have e1 : eT = 3 := HeT.out.trans o1
    have e2 : nT = 0 := HnT.out.trans o2
    subst e1 e2
    clear o1 o2 o3
    have HE9 : Hid _ := HE7.out.below b9
    obtain ⟨p0, p1, p2, p3, p4, -, -, -, -, -, ps⟩ := boxf (HE9.out.box _ (.tail _ (.tail _ (.tail _ (.head _)))))
    obtain ⟨r0, r1, r2, r3, r4, -, -, -, -, -, rs⟩ := boxf (HE9.out.box _ (.head _))
    go_wp2_with fail
    clear p0 p1 p2 p3 p4 ps r0 r1 r2 r3 r4 rs
    refine (rsame_eq HT0.out (HE9.out.ans (.tail _ (.tail _ (.tail _ (.head _))))) (HE9.out.ans (.head _))).mono ?_
    rintro e wc ⟨rfl, hbc⟩
    have bc : Below w7.heap.size w7 wc := b9.trans (hbc.mono b9.size)
    have HBx : Hid (wc.heap[B8]? = _) := (hbc.block _ (lt_of_block HM9.out.box)).trans HM9.out.box
    clear hbc HE9 HM9 b9
    have HEc : Hid _ := HE7.out.below bc
    obtain ⟨q0, q1, q2, q3, q4, -, -, -, -, -, qs⟩ := boxf (HEc.out.box _ (.tail _ (.tail _ (.tail _ (.tail _ (.tail _ (.tail _ (.head _))))))))
    rcases Int.lt_or_le i 0 with hi0 | hi0
    · have o1 : heldE M i = 5 := by unfold heldE; rw [if_neg (by simpa using HC0.out), if_pos (by simp [isSl, inB]; omega)]
      have o2 : letE M i = 5 := by unfold letE; rw [if_neg (by simpa using HC0.out), if_pos (by simp [isSl, inB]; omega)]
      have HH0 : Hid (MH = m0) := HMH.out.trans (by unfold heldM; rw [o1, if_neg (by decide)])
      have HL0 : Hid (ML = m0) := HML.out.trans (by unfold letM; rw [o2, if_neg (by decide)])
      have e3 : eH = 5 := HeH.out.trans o1
      have e4 : eL = 5 := HeL.out.trans o2
      subst e3 e4
      clear o1 o2
      obtain ⟨p0, p1, p2, p3, p4, -, -, -, -, -, ps⟩ := boxf (HEc.out.box _ (.tail _ (.tail _ (.head _))))
      obtain ⟨r0, r1, r2, r3, r4, -, -, -, -, -, rs⟩ := boxf (HEc.out.box _ (.head _))
      go_wp2_with fail
      clear p0 p1 p2 p3 p4 ps r0 r1 r2 r3 r4 rs q0 q1 q2 q3 q4 qs
      refine (rsame_eq HH0.out (HEc.out.ans (.tail _ (.tail _ (.head _)))) (HEc.out.ans (.head _))).mono ?_
      rintro e w20 ⟨rfl, hb20⟩
      have HE20 : Hid _ := HEc.out.below hb20
      obtain ⟨p0, p1, p2, p3, p4, -, -, -, -, -, ps⟩ := boxf (HE20.out.box _ (.tail _ (.head _)))
      obtain ⟨r0, r1, r2, r3, r4, -, -, -, -, -, rs⟩ := boxf (HE20.out.box _ (.head _))
      go_wp2_with fail
      clear p0 p1 p2 p3 p4 ps r0 r1 r2 r3 r4 rs
      refine (rsame_eq HL0.out (HE20.out.ans (.tail _ (.head _))) (HE20.out.ans (.head _))).mono ?_
      rintro e w21 ⟨rfl, hb21⟩
      have HE21 : Hid _ := HE20.out.below hb21
      go_wp2
      go_ret
      exact ⟨rfl, HE21.out.bl⟩
    rcases Int.lt_or_le i M.slots.length with hi1 | hi1
    rotate_left
    · have o1 : heldE M i = 5 := by unfold heldE; rw [if_neg (by simpa using HC0.out), if_pos (by simp [isSl, inB]; omega)]
      have o2 : letE M i = 5 := by unfold letE; rw [if_neg (by simpa using HC0.out), if_pos (by simp [isSl, inB]; omega)]
      have HH0 : Hid (MH = m0) := HMH.out.trans (by unfold heldM; rw [o1, if_neg (by decide)])
      have HL0 : Hid (ML = m0) := HML.out.trans (by unfold letM; rw [o2, if_neg (by decide)])
      have e3 : eH = 5 := HeH.out.trans o1
      have e4 : eL = 5 := HeL.out.trans o2
      subst e3 e4
      clear o1 o2
      obtain ⟨p0, p1, p2, p3, p4, -, -, -, -, -, ps⟩ := boxf (HEc.out.box _ (.tail _ (.tail _ (.head _))))
      obtain ⟨r0, r1, r2, r3, r4, -, -, -, -, -, rs⟩ := boxf (HEc.out.box _ (.head _))
      go_wp2_with fail
      clear p0 p1 p2 p3 p4 ps r0 r1 r2 r3 r4 rs q0 q1 q2 q3 q4 qs
      refine (rsame_eq HH0.out (HEc.out.ans (.tail _ (.tail _ (.head _)))) (HEc.out.ans (.head _))).mono ?_
      rintro e w20 ⟨rfl, hb20⟩
      have HE20 : Hid _ := HEc.out.below hb20
      obtain ⟨p0, p1, p2, p3, p4, -, -, -, -, -, ps⟩ := boxf (HE20.out.box _ (.tail _ (.head _)))
      obtain ⟨r0, r1, r2, r3, r4, -, -, -, -, -, rs⟩ := boxf (HE20.out.box _ (.head _))
      go_wp2_with fail
      clear p0 p1 p2 p3 p4 ps r0 r1 r2 r3 r4 rs
      refine (rsame_eq HL0.out (HE20.out.ans (.tail _ (.head _))) (HE20.out.ans (.head _))).mono ?_
      rintro e w21 ⟨rfl, hb21⟩
      have HE21 : Hid _ := HE20.out.below hb21
      go_wp2
      go_ret
      exact ⟨rfl, HE21.out.bl⟩
    obtain ⟨j, rfl⟩ : ∃ j : Nat, i = j := ⟨i.toNat, by omega⟩
    have hj : j < M.slots.length := by omega
    have hsl : isSl M j = true := (inB_iff _ _ _).2 ⟨by omega, by omega⟩
    obtain ⟨-, -, hr0, hr1⟩ := refs_in HC0.out hsl
    have HSl : Hid (isSl M j = true) := hsl
    clear hsl
    go_wp2_with fail
    clear q0 q1 q2 q3 q4 qs
    refine (ownMem_any M aS aH aF aL cS cH cF cL wc (HEc.out.ans (.tail _ (.tail _ (.tail _ (.tail _ (.tail _ (.head _))))))).at_).mono ?_
    rintro e w30 ⟨gS2, gH2, gF2, gL2, kS2, kH2, kF2, kL2, rfl, rw30, hb30⟩
    have bc30 : Below w7.heap.size w7 w30 := bc.trans (hb30.mono bc.size)
    have HBx30 : Hid (w30.heap[B8]? = _) := (hb30.block _ (lt_of_block HBx.out)).trans HBx.out
    have HM30 : Hid (Mine (set5 w30 B8 (.slice gS2 M.slots.length kS2) (.slice gH2 M.heads.length kH2) (.slice gF2 M.free.length kF2) (.slice gL2 M.locks.length kL2) (.int .i64 M.now)) B8 wc.heap.size gS2 gH2 gF2 gL2 kS2 kH2 kF2 kL2 M) := Mine.stored rw30 HBx30.out m1 m2 (by omega) m4
    have bs30 : Below w7.heap.size w7 (set5 w30 B8 (.slice gS2 M.slots.length kS2) (.slice gH2 M.heads.length kH2) (.slice gF2 M.free.length kF2) (.slice gL2 M.locks.length kL2) (.int .i64 M.now)) := bc30.trans (set5_below w30 B8 w7.heap.size _ _ _ _ _ HZ8.out)
    have HLz30 : Hid (w7.heap.size ≤ wc.heap.size) := bc.size
    obtain ⟨v0, v1, v2, v3, v4, f0, f1, f2, f3, f4, vs⟩ := boxf HBx30.out
    clear rw30 hb30 bc30
    go_wp2_with fail
    rw [show ((((w30.setCell ⟨B8, 0, none⟩ (.slice gS2 M.slots.length kS2)).setCell ⟨B8, 1, none⟩ (.slice gH2 M.heads.length kH2)).setCell ⟨B8, 2, none⟩ (.slice gF2 M.free.length kF2)).setCell ⟨B8, 3, none⟩ (.slice gL2 M.locks.length kL2)).setCell ⟨B8, 4, none⟩ (.int .i64 M.now) = set5 w30 B8 (.slice gS2 M.slots.length kS2) (.slice gH2 M.heads.length kH2) (.slice gF2 M.free.length kF2) (.slice gL2 M.locks.length kL2) (.int .i64 M.now) from rfl]
    clear v0 v1 v2 v3 v4 f0 f1 f2 f3 f4 vs HBx30
    generalize set5 w30 B8 (.slice gS2 M.slots.length kS2) (.slice gH2 M.heads.length kH2) (.slice gF2 M.free.length kF2) (.slice gL2 M.locks.length kL2) (.int .i64 M.now) = W30 at *
    by_cases hr : refsM M j = 0 ∨ refsM M j = 1000
    · have o1 : heldE M j = 8 := by unfold heldE; rw [if_neg (by simpa using HC0.out), if_neg (by rw [HSl.out]; simp), if_pos hr]
      have HH0 : Hid (MH = m0) := HMH.out.trans (by unfold heldM; rw [o1, if_neg (by decide)])
      have e3 : eH = 8 := HeH.out.trans o1
      subst e3
      clear o1
      refine (rhold_fail M W30 _ _ _ _ _ _ _ _ _ _ j HM30.out (by omega) (by omega) (by omega)).mono ?_
      rintro e w31 ⟨rfl, rfl⟩
      have HE31 : Hid _ := HE7.out.below bs30
      obtain ⟨p0, p1, p2, p3, p4, -, -, -, -, -, ps⟩ := boxf (HE31.out.box _ (.tail _ (.tail _ (.head _))))
      obtain ⟨r0, r1, r2, r3, r4, -, -, -, -, -, rs⟩ := boxf (HE31.out.box _ (.head _))
      go_wp2_with fail
      clear p0 p1 p2 p3 p4 ps r0 r1 r2 r3 r4 rs
      refine (rsame_eq HH0.out (HE31.out.ans (.tail _ (.tail _ (.head _)))) (HE31.out.ans (.head _))).mono ?_
      rintro e w32 ⟨rfl, hb32⟩
      have HBx32 : Hid (w32.heap[B8]? = _) := (hb32.block _ (lt_of_block HM30.out.box)).trans HM30.out.box
      have b32 : Below w7.heap.size w7 w32 := bs30.trans (hb32.mono bs30.size)
      clear hb32 HE31 bs30 HM30 HBx HEc bc hr
      have HBx : Hid _ := HBx32.out
      have HE32 : Hid _ := HE7.out.below b32
      clear HBx32
      have hrr := refsM_at M j hj
      rcases (HE32.out.ans (.tail _ (.tail _ (.tail _ (.tail _ (.tail _ (.head _))))))).at_.s.at_ with h0 | ⟨bs, os, rfl, hcs⟩
      · omega
      obtain ⟨s0, -⟩ := hcs j hj
      rw [← hrr] at s0
      clear hcs hrr
      obtain ⟨q0, q1, q2, q3, q4, -, -, -, -, -, qs⟩ := boxf (HE32.out.box _ (.tail _ (.tail _ (.tail _ (.tail _ (.tail _ (.tail _ (.head _))))))))
      by_cases hz : refsM M j = 0
      · have o2 : letE M j = 8 := by unfold letE; rw [if_neg (by simpa using HC0.out), if_neg (by rw [HSl.out]; simp), if_pos hz]
        have HL0 : Hid (ML = m0) := HML.out.trans (by unfold letM; rw [o2, if_neg (by decide)])
        have e4 : eL = 8 := HeL.out.trans o2
        subst e4
        rw [hz] at s0
        clear o2
        obtain ⟨p0, p1, p2, p3, p4, -, -, -, -, -, ps⟩ := boxf (HE32.out.box _ (.tail _ (.head _)))
        obtain ⟨r0, r1, r2, r3, r4, -, -, -, -, -, rs⟩ := boxf (HE32.out.box _ (.head _))
        go_wp2_with fail
        clear p0 p1 p2 p3 p4 ps r0 r1 r2 r3 r4 rs q0 q1 q2 q3 q4 qs
        refine (rsame_eq HL0.out (HE32.out.ans (.tail _ (.head _))) (HE32.out.ans (.head _))).mono ?_
        rintro e w33 ⟨rfl, hb33⟩
        have HE33 : Hid _ := HE32.out.below hb33
        go_wp2
        go_ret
        exact ⟨rfl, HE33.out.bl⟩
      have o2 : letE M j = 0 := by unfold letE; rw [if_neg (by simpa using HC0.out), if_neg (by rw [HSl.out]; simp), if_neg hz]
      have HL0 : Hid (ML = putM M j) := HML.out.trans (by unfold letM; rw [o2, if_pos rfl])
      have e4 : eL = 0 := HeL.out.trans o2
      subst e4
      clear o2
      have hz' : (refsM M j == 0) = false := by simpa using hz
      go_wp2_with fail
      clear q0 q1 q2 q3 q4 qs s0
      refine (ownMem_any M _ aH aF aL cS cH cF cL w32 (HE32.out.ans (.tail _ (.tail _ (.tail _ (.tail _ (.tail _ (.head _))))))).at_).mono ?_
      rintro e w40 ⟨gS2, gH2, gF2, gL2, kS2, kH2, kF2, kL2, rfl, rw40, hb40⟩
      have bc40 : Below w7.heap.size w7 w40 := b32.trans (hb40.mono b32.size)
      have HBx40 : Hid (w40.heap[B8]? = _) := (hb40.block _ (lt_of_block HBx.out)).trans HBx.out
      have HM40 : Hid (Mine (set5 w40 B8 (.slice gS2 M.slots.length kS2) (.slice gH2 M.heads.length kH2) (.slice gF2 M.free.length kF2) (.slice gL2 M.locks.length kL2) (.int .i64 M.now)) B8 w32.heap.size gS2 gH2 gF2 gL2 kS2 kH2 kF2 kL2 M) := Mine.stored rw40 HBx40.out m1 m2 (by omega) m4
      have bs40 : Below w7.heap.size w7 (set5 w40 B8 (.slice gS2 M.slots.length kS2) (.slice gH2 M.heads.length kH2) (.slice gF2 M.free.length kF2) (.slice gL2 M.locks.length kL2) (.int .i64 M.now)) := bc40.trans (set5_below w40 B8 w7.heap.size _ _ _ _ _ HZ8.out)
      have HLz40 : Hid (w7.heap.size ≤ w32.heap.size) := b32.size
      obtain ⟨v0, v1, v2, v3, v4, f0, f1, f2, f3, f4, vs⟩ := boxf HBx40.out
      clear rw40 hb40 bc40
      go_wp2_with fail
      rw [show ((((w40.setCell ⟨B8, 0, none⟩ (.slice gS2 M.slots.length kS2)).setCell ⟨B8, 1, none⟩ (.slice gH2 M.heads.length kH2)).setCell ⟨B8, 2, none⟩ (.slice gF2 M.free.length kF2)).setCell ⟨B8, 3, none⟩ (.slice gL2 M.locks.length kL2)).setCell ⟨B8, 4, none⟩ (.int .i64 M.now) = set5 w40 B8 (.slice gS2 M.slots.length kS2) (.slice gH2 M.heads.length kH2) (.slice gF2 M.free.length kF2) (.slice gL2 M.locks.length kL2) (.int .i64 M.now) from rfl]
      clear v0 v1 v2 v3 v4 f0 f1 f2 f3 f4 vs HBx40
      generalize set5 w40 B8 (.slice gS2 M.slots.length kS2) (.slice gH2 M.heads.length kH2) (.slice gF2 M.free.length kF2) (.slice gL2 M.locks.length kL2) (.int .i64 M.now) = W40 at *
      refine (rput_at HL0.out W40 _ _ _ _ _ _ _ _ _ _ HM40.out (by omega) (by omega) (by omega) (by omega) (by omega)).mono ?_
      rintro e w41 ⟨rfl, uS', uH', uF', uL', lS', lH', lF', lL', m41, k41⟩
      have b41 : Below w7.heap.size w7 w41 := bs40.trans (k41.down (n := w7.heap.size) HLz40.out HZ8.out)
      have HM41 : Hid _ := m41
      have HE41 : Hid _ := HE7.out.below b41
      clear m41 k41 bs40 HM40
      obtain ⟨p0, p1, p2, p3, p4, -, -, -, -, -, ps⟩ := boxf (HE41.out.box _ (.tail _ (.head _)))
      obtain ⟨r0, r1, r2, r3, r4, -, -, -, -, -, rs⟩ := boxf HM41.out.box
      go_wp2_with fail
      clear p0 p1 p2 p3 p4 ps r0 r1 r2 r3 r4 rs
      refine (rsame_eq rfl (HE41.out.ans (.tail _ (.head _))) HM41.out.ans).mono ?_
      rintro e w42 ⟨rfl, hb42⟩
      have HE42 : Hid _ := HE41.out.below hb42
      go_wp2
      go_ret
      exact ⟨rfl, HE42.out.bl⟩
    have o1 : heldE M j = 0 := by unfold heldE; rw [if_neg (by simpa using HC0.out), if_neg (by rw [HSl.out]; simp), if_neg hr]
    have HH0 : Hid (MH = holdM M j) := HMH.out.trans (by unfold heldM; rw [o1, if_pos rfl])
    have e3 : eH = 0 := HeH.out.trans o1
    subst e3
    clear o1
    refine (rhold_at HH0.out W30 _ _ _ _ _ _ _ _ _ _ HM30.out (by omega) (by omega) (by omega) (by omega)).mono ?_
    rintro e w31 ⟨rfl, uS, uH, uF, uL, lS, lH, lF, lL, m31, k31⟩
    have b31 : Below w7.heap.size w7 w31 := bs30.trans (k31.down (n := w7.heap.size) HLz30.out HZ8.out)
    have HM31 : Hid _ := m31
    have HE31 : Hid _ := HE7.out.below b31
    clear m31 k31 bs30 HM30
    obtain ⟨p0, p1, p2, p3, p4, -, -, -, -, -, ps⟩ := boxf (HE31.out.box _ (.tail _ (.tail _ (.head _))))
    obtain ⟨r0, r1, r2, r3, r4, -, -, -, -, -, rs⟩ := boxf HM31.out.box
    go_wp2_with fail
    clear p0 p1 p2 p3 p4 ps r0 r1 r2 r3 r4 rs
    refine (rsame_eq rfl (HE31.out.ans (.tail _ (.tail _ (.head _)))) HM31.out.ans).mono ?_
    rintro e w32 ⟨rfl, hb32⟩
    have HBx32 : Hid (w32.heap[B8]? = _) := (hb32.block _ (lt_of_block HM31.out.box)).trans HM31.out.box
    have b32 : Below w7.heap.size w7 w32 := b31.trans (hb32.mono b31.size)
    clear hb32 HE31 b31 HM31 HBx HEc bc hr
    have HBx : Hid _ := HBx32.out
    have HE32 : Hid _ := HE7.out.below b32
    clear HBx32
    have hrr := refsM_at M j hj
    rcases (HE32.out.ans (.tail _ (.tail _ (.tail _ (.tail _ (.tail _ (.head _))))))).at_.s.at_ with h0 | ⟨bs, os, rfl, hcs⟩
    · omega
    obtain ⟨s0, -⟩ := hcs j hj
    rw [← hrr] at s0
    clear hcs hrr
    obtain ⟨q0, q1, q2, q3, q4, -, -, -, -, -, qs⟩ := boxf (HE32.out.box _ (.tail _ (.tail _ (.tail _ (.tail _ (.tail _ (.tail _ (.head _))))))))
    by_cases hz : refsM M j = 0
    · have o2 : letE M j = 8 := by unfold letE; rw [if_neg (by simpa using HC0.out), if_neg (by rw [HSl.out]; simp), if_pos hz]
      have HL0 : Hid (ML = m0) := HML.out.trans (by unfold letM; rw [o2, if_neg (by decide)])
      have e4 : eL = 8 := HeL.out.trans o2
      subst e4
      rw [hz] at s0
      clear o2
      obtain ⟨p0, p1, p2, p3, p4, -, -, -, -, -, ps⟩ := boxf (HE32.out.box _ (.tail _ (.head _)))
      obtain ⟨r0, r1, r2, r3, r4, -, -, -, -, -, rs⟩ := boxf (HE32.out.box _ (.head _))
      go_wp2_with fail
      clear p0 p1 p2 p3 p4 ps r0 r1 r2 r3 r4 rs q0 q1 q2 q3 q4 qs
      refine (rsame_eq HL0.out (HE32.out.ans (.tail _ (.head _))) (HE32.out.ans (.head _))).mono ?_
      rintro e w33 ⟨rfl, hb33⟩
      have HE33 : Hid _ := HE32.out.below hb33
      go_wp2
      go_ret
      exact ⟨rfl, HE33.out.bl⟩
    have o2 : letE M j = 0 := by unfold letE; rw [if_neg (by simpa using HC0.out), if_neg (by rw [HSl.out]; simp), if_neg hz]
    have HL0 : Hid (ML = putM M j) := HML.out.trans (by unfold letM; rw [o2, if_pos rfl])
    have e4 : eL = 0 := HeL.out.trans o2
    subst e4
    clear o2
    have hz' : (refsM M j == 0) = false := by simpa using hz
    go_wp2_with fail
    clear q0 q1 q2 q3 q4 qs s0
    refine (ownMem_any M _ aH aF aL cS cH cF cL w32 (HE32.out.ans (.tail _ (.tail _ (.tail _ (.tail _ (.tail _ (.head _))))))).at_).mono ?_
    rintro e w40 ⟨gS2, gH2, gF2, gL2, kS2, kH2, kF2, kL2, rfl, rw40, hb40⟩
    have bc40 : Below w7.heap.size w7 w40 := b32.trans (hb40.mono b32.size)
    have HBx40 : Hid (w40.heap[B8]? = _) := (hb40.block _ (lt_of_block HBx.out)).trans HBx.out
    have HM40 : Hid (Mine (set5 w40 B8 (.slice gS2 M.slots.length kS2) (.slice gH2 M.heads.length kH2) (.slice gF2 M.free.length kF2) (.slice gL2 M.locks.length kL2) (.int .i64 M.now)) B8 w32.heap.size gS2 gH2 gF2 gL2 kS2 kH2 kF2 kL2 M) := Mine.stored rw40 HBx40.out m1 m2 (by omega) m4
    have bs40 : Below w7.heap.size w7 (set5 w40 B8 (.slice gS2 M.slots.length kS2) (.slice gH2 M.heads.length kH2) (.slice gF2 M.free.length kF2) (.slice gL2 M.locks.length kL2) (.int .i64 M.now)) := bc40.trans (set5_below w40 B8 w7.heap.size _ _ _ _ _ HZ8.out)
    have HLz40 : Hid (w7.heap.size ≤ w32.heap.size) := b32.size
    obtain ⟨v0, v1, v2, v3, v4, f0, f1, f2, f3, f4, vs⟩ := boxf HBx40.out
    clear rw40 hb40 bc40
    go_wp2_with fail
    rw [show ((((w40.setCell ⟨B8, 0, none⟩ (.slice gS2 M.slots.length kS2)).setCell ⟨B8, 1, none⟩ (.slice gH2 M.heads.length kH2)).setCell ⟨B8, 2, none⟩ (.slice gF2 M.free.length kF2)).setCell ⟨B8, 3, none⟩ (.slice gL2 M.locks.length kL2)).setCell ⟨B8, 4, none⟩ (.int .i64 M.now) = set5 w40 B8 (.slice gS2 M.slots.length kS2) (.slice gH2 M.heads.length kH2) (.slice gF2 M.free.length kF2) (.slice gL2 M.locks.length kL2) (.int .i64 M.now) from rfl]
    clear v0 v1 v2 v3 v4 f0 f1 f2 f3 f4 vs HBx40
    generalize set5 w40 B8 (.slice gS2 M.slots.length kS2) (.slice gH2 M.heads.length kH2) (.slice gF2 M.free.length kF2) (.slice gL2 M.locks.length kL2) (.int .i64 M.now) = W40 at *
    refine (rput_at HL0.out W40 _ _ _ _ _ _ _ _ _ _ HM40.out (by omega) (by omega) (by omega) (by omega) (by omega)).mono ?_
    rintro e w41 ⟨rfl, uS', uH', uF', uL', lS', lH', lF', lL', m41, k41⟩
    have b41 : Below w7.heap.size w7 w41 := bs40.trans (k41.down (n := w7.heap.size) HLz40.out HZ8.out)
    have HM41 : Hid _ := m41
    have HE41 : Hid _ := HE7.out.below b41
    clear m41 k41 bs40 HM40
    obtain ⟨p0, p1, p2, p3, p4, -, -, -, -, -, ps⟩ := boxf (HE41.out.box _ (.tail _ (.head _)))
    obtain ⟨r0, r1, r2, r3, r4, -, -, -, -, -, rs⟩ := boxf HM41.out.box
    go_wp2_with fail
    clear p0 p1 p2 p3 p4 ps r0 r1 r2 r3 r4 rs
    refine (rsame_eq rfl (HE41.out.ans (.tail _ (.head _))) HM41.out.ans).mono ?_
    rintro e w42 ⟨rfl, hb42⟩
    have HE42 : Hid _ := HE41.out.below hb42
    go_wp2
    go_ret
    exact ⟨rfl, HE42.out.bl⟩

  rcases Int.lt_or_le u 0 with hu0 | hu0
  · have o1 : takenE M ka kb u = 3 := by unfold takenE; rw [if_neg (by simpa using HC0.out), if_neg (by rw [hK]; simp), if_pos (by simp [inB]; omega)]
    obtain ⟨o2, o3⟩ := takes_no o1 (by decide)
    have HT0 : Hid (MT = m0) := HMT.out.trans o3
    have e1 : eT = 3 := HeT.out.trans o1
    have e2 : nT = 0 := HnT.out.trans o2
    subst e1 e2
    clear o1 o2 o3
    have HE9 : Hid _ := HE7.out.below b9
    obtain ⟨p0, p1, p2, p3, p4, -, -, -, -, -, ps⟩ := boxf (HE9.out.box _ (.tail _ (.tail _ (.tail _ (.head _)))))
    obtain ⟨r0, r1, r2, r3, r4, -, -, -, -, -, rs⟩ := boxf (HE9.out.box _ (.head _))
    go_wp2_with fail
    clear p0 p1 p2 p3 p4 ps r0 r1 r2 r3 r4 rs
    refine (rsame_eq HT0.out (HE9.out.ans (.tail _ (.tail _ (.tail _ (.head _))))) (HE9.out.ans (.head _))).mono ?_
    rintro e wc ⟨rfl, hbc⟩
    have bc : Below w7.heap.size w7 wc := b9.trans (hbc.mono b9.size)
    have HBx : Hid (wc.heap[B8]? = _) := (hbc.block _ (lt_of_block HM9.out.box)).trans HM9.out.box
    clear hbc HE9 HM9 b9
    have HEc : Hid _ := HE7.out.below bc
    obtain ⟨q0, q1, q2, q3, q4, -, -, -, -, -, qs⟩ := boxf (HEc.out.box _ (.tail _ (.tail _ (.tail _ (.tail _ (.tail _ (.tail _ (.head _))))))))
    rcases Int.lt_or_le i 0 with hi0 | hi0
    · have o1 : heldE M i = 5 := by unfold heldE; rw [if_neg (by simpa using HC0.out), if_pos (by simp [isSl, inB]; omega)]
      have o2 : letE M i = 5 := by unfold letE; rw [if_neg (by simpa using HC0.out), if_pos (by simp [isSl, inB]; omega)]
      have HH0 : Hid (MH = m0) := HMH.out.trans (by unfold heldM; rw [o1, if_neg (by decide)])
      have HL0 : Hid (ML = m0) := HML.out.trans (by unfold letM; rw [o2, if_neg (by decide)])
      have e3 : eH = 5 := HeH.out.trans o1
      have e4 : eL = 5 := HeL.out.trans o2
      subst e3 e4
      clear o1 o2
      obtain ⟨p0, p1, p2, p3, p4, -, -, -, -, -, ps⟩ := boxf (HEc.out.box _ (.tail _ (.tail _ (.head _))))
      obtain ⟨r0, r1, r2, r3, r4, -, -, -, -, -, rs⟩ := boxf (HEc.out.box _ (.head _))
      go_wp2_with fail
      clear p0 p1 p2 p3 p4 ps r0 r1 r2 r3 r4 rs q0 q1 q2 q3 q4 qs
      refine (rsame_eq HH0.out (HEc.out.ans (.tail _ (.tail _ (.head _)))) (HEc.out.ans (.head _))).mono ?_
      rintro e w20 ⟨rfl, hb20⟩
      have HE20 : Hid _ := HEc.out.below hb20
      obtain ⟨p0, p1, p2, p3, p4, -, -, -, -, -, ps⟩ := boxf (HE20.out.box _ (.tail _ (.head _)))
      obtain ⟨r0, r1, r2, r3, r4, -, -, -, -, -, rs⟩ := boxf (HE20.out.box _ (.head _))
      go_wp2_with fail
      clear p0 p1 p2 p3 p4 ps r0 r1 r2 r3 r4 rs
      refine (rsame_eq HL0.out (HE20.out.ans (.tail _ (.head _))) (HE20.out.ans (.head _))).mono ?_
      rintro e w21 ⟨rfl, hb21⟩
      have HE21 : Hid _ := HE20.out.below hb21
      go_wp2
      go_ret
      exact ⟨rfl, HE21.out.bl⟩
    rcases Int.lt_or_le i M.slots.length with hi1 | hi1
    rotate_left
    · have o1 : heldE M i = 5 := by unfold heldE; rw [if_neg (by simpa using HC0.out), if_pos (by simp [isSl, inB]; omega)]
      have o2 : letE M i = 5 := by unfold letE; rw [if_neg (by simpa using HC0.out), if_pos (by simp [isSl, inB]; omega)]
      have HH0 : Hid (MH = m0) := HMH.out.trans (by unfold heldM; rw [o1, if_neg (by decide)])
      have HL0 : Hid (ML = m0) := HML.out.trans (by unfold letM; rw [o2, if_neg (by decide)])
      have e3 : eH = 5 := HeH.out.trans o1
      have e4 : eL = 5 := HeL.out.trans o2
      subst e3 e4
      clear o1 o2
      obtain ⟨p0, p1, p2, p3, p4, -, -, -, -, -, ps⟩ := boxf (HEc.out.box _ (.tail _ (.tail _ (.head _))))
      obtain ⟨r0, r1, r2, r3, r4, -, -, -, -, -, rs⟩ := boxf (HEc.out.box _ (.head _))
      go_wp2_with fail
      clear p0 p1 p2 p3 p4 ps r0 r1 r2 r3 r4 rs q0 q1 q2 q3 q4 qs
      refine (rsame_eq HH0.out (HEc.out.ans (.tail _ (.tail _ (.head _)))) (HEc.out.ans (.head _))).mono ?_
      rintro e w20 ⟨rfl, hb20⟩
      have HE20 : Hid _ := HEc.out.below hb20
      obtain ⟨p0, p1, p2, p3, p4, -, -, -, -, -, ps⟩ := boxf (HE20.out.box _ (.tail _ (.head _)))
      obtain ⟨r0, r1, r2, r3, r4, -, -, -, -, -, rs⟩ := boxf (HE20.out.box _ (.head _))
      go_wp2_with fail
      clear p0 p1 p2 p3 p4 ps r0 r1 r2 r3 r4 rs
      refine (rsame_eq HL0.out (HE20.out.ans (.tail _ (.head _))) (HE20.out.ans (.head _))).mono ?_
      rintro e w21 ⟨rfl, hb21⟩
      have HE21 : Hid _ := HE20.out.below hb21
      go_wp2
      go_ret
      exact ⟨rfl, HE21.out.bl⟩
    obtain ⟨j, rfl⟩ : ∃ j : Nat, i = j := ⟨i.toNat, by omega⟩
    have hj : j < M.slots.length := by omega
    have hsl : isSl M j = true := (inB_iff _ _ _).2 ⟨by omega, by omega⟩
    obtain ⟨-, -, hr0, hr1⟩ := refs_in HC0.out hsl
    have HSl : Hid (isSl M j = true) := hsl
    clear hsl
    go_wp2_with fail
    clear q0 q1 q2 q3 q4 qs
    refine (ownMem_any M aS aH aF aL cS cH cF cL wc (HEc.out.ans (.tail _ (.tail _ (.tail _ (.tail _ (.tail _ (.head _))))))).at_).mono ?_
    rintro e w30 ⟨gS2, gH2, gF2, gL2, kS2, kH2, kF2, kL2, rfl, rw30, hb30⟩
    have bc30 : Below w7.heap.size w7 w30 := bc.trans (hb30.mono bc.size)
    have HBx30 : Hid (w30.heap[B8]? = _) := (hb30.block _ (lt_of_block HBx.out)).trans HBx.out
    have HM30 : Hid (Mine (set5 w30 B8 (.slice gS2 M.slots.length kS2) (.slice gH2 M.heads.length kH2) (.slice gF2 M.free.length kF2) (.slice gL2 M.locks.length kL2) (.int .i64 M.now)) B8 wc.heap.size gS2 gH2 gF2 gL2 kS2 kH2 kF2 kL2 M) := Mine.stored rw30 HBx30.out m1 m2 (by omega) m4
    have bs30 : Below w7.heap.size w7 (set5 w30 B8 (.slice gS2 M.slots.length kS2) (.slice gH2 M.heads.length kH2) (.slice gF2 M.free.length kF2) (.slice gL2 M.locks.length kL2) (.int .i64 M.now)) := bc30.trans (set5_below w30 B8 w7.heap.size _ _ _ _ _ HZ8.out)
    have HLz30 : Hid (w7.heap.size ≤ wc.heap.size) := bc.size
    obtain ⟨v0, v1, v2, v3, v4, f0, f1, f2, f3, f4, vs⟩ := boxf HBx30.out
    clear rw30 hb30 bc30
    go_wp2_with fail
    rw [show ((((w30.setCell ⟨B8, 0, none⟩ (.slice gS2 M.slots.length kS2)).setCell ⟨B8, 1, none⟩ (.slice gH2 M.heads.length kH2)).setCell ⟨B8, 2, none⟩ (.slice gF2 M.free.length kF2)).setCell ⟨B8, 3, none⟩ (.slice gL2 M.locks.length kL2)).setCell ⟨B8, 4, none⟩ (.int .i64 M.now) = set5 w30 B8 (.slice gS2 M.slots.length kS2) (.slice gH2 M.heads.length kH2) (.slice gF2 M.free.length kF2) (.slice gL2 M.locks.length kL2) (.int .i64 M.now) from rfl]
    clear v0 v1 v2 v3 v4 f0 f1 f2 f3 f4 vs HBx30
    generalize set5 w30 B8 (.slice gS2 M.slots.length kS2) (.slice gH2 M.heads.length kH2) (.slice gF2 M.free.length kF2) (.slice gL2 M.locks.length kL2) (.int .i64 M.now) = W30 at *
    by_cases hr : refsM M j = 0 ∨ refsM M j = 1000
    · have o1 : heldE M j = 8 := by unfold heldE; rw [if_neg (by simpa using HC0.out), if_neg (by rw [HSl.out]; simp), if_pos hr]
      have HH0 : Hid (MH = m0) := HMH.out.trans (by unfold heldM; rw [o1, if_neg (by decide)])
      have e3 : eH = 8 := HeH.out.trans o1
      subst e3
      clear o1
      refine (rhold_fail M W30 _ _ _ _ _ _ _ _ _ _ j HM30.out (by omega) (by omega) (by omega)).mono ?_
      rintro e w31 ⟨rfl, rfl⟩
      have HE31 : Hid _ := HE7.out.below bs30
      obtain ⟨p0, p1, p2, p3, p4, -, -, -, -, -, ps⟩ := boxf (HE31.out.box _ (.tail _ (.tail _ (.head _))))
      obtain ⟨r0, r1, r2, r3, r4, -, -, -, -, -, rs⟩ := boxf (HE31.out.box _ (.head _))
      go_wp2_with fail
      clear p0 p1 p2 p3 p4 ps r0 r1 r2 r3 r4 rs
      refine (rsame_eq HH0.out (HE31.out.ans (.tail _ (.tail _ (.head _)))) (HE31.out.ans (.head _))).mono ?_
      rintro e w32 ⟨rfl, hb32⟩
      have HBx32 : Hid (w32.heap[B8]? = _) := (hb32.block _ (lt_of_block HM30.out.box)).trans HM30.out.box
      have b32 : Below w7.heap.size w7 w32 := bs30.trans (hb32.mono bs30.size)
      clear hb32 HE31 bs30 HM30 HBx HEc bc hr
      have HBx : Hid _ := HBx32.out
      have HE32 : Hid _ := HE7.out.below b32
      clear HBx32
      have hrr := refsM_at M j hj
      rcases (HE32.out.ans (.tail _ (.tail _ (.tail _ (.tail _ (.tail _ (.head _))))))).at_.s.at_ with h0 | ⟨bs, os, rfl, hcs⟩
      · omega
      obtain ⟨s0, -⟩ := hcs j hj
      rw [← hrr] at s0
      clear hcs hrr
      obtain ⟨q0, q1, q2, q3, q4, -, -, -, -, -, qs⟩ := boxf (HE32.out.box _ (.tail _ (.tail _ (.tail _ (.tail _ (.tail _ (.tail _ (.head _))))))))
      by_cases hz : refsM M j = 0
      · have o2 : letE M j = 8 := by unfold letE; rw [if_neg (by simpa using HC0.out), if_neg (by rw [HSl.out]; simp), if_pos hz]
        have HL0 : Hid (ML = m0) := HML.out.trans (by unfold letM; rw [o2, if_neg (by decide)])
        have e4 : eL = 8 := HeL.out.trans o2
        subst e4
        rw [hz] at s0
        clear o2
        obtain ⟨p0, p1, p2, p3, p4, -, -, -, -, -, ps⟩ := boxf (HE32.out.box _ (.tail _ (.head _)))
        obtain ⟨r0, r1, r2, r3, r4, -, -, -, -, -, rs⟩ := boxf (HE32.out.box _ (.head _))
        go_wp2_with fail
        clear p0 p1 p2 p3 p4 ps r0 r1 r2 r3 r4 rs q0 q1 q2 q3 q4 qs
        refine (rsame_eq HL0.out (HE32.out.ans (.tail _ (.head _))) (HE32.out.ans (.head _))).mono ?_
        rintro e w33 ⟨rfl, hb33⟩
        have HE33 : Hid _ := HE32.out.below hb33
        go_wp2
        go_ret
        exact ⟨rfl, HE33.out.bl⟩
      have o2 : letE M j = 0 := by unfold letE; rw [if_neg (by simpa using HC0.out), if_neg (by rw [HSl.out]; simp), if_neg hz]
      have HL0 : Hid (ML = putM M j) := HML.out.trans (by unfold letM; rw [o2, if_pos rfl])
      have e4 : eL = 0 := HeL.out.trans o2
      subst e4
      clear o2
      have hz' : (refsM M j == 0) = false := by simpa using hz
      go_wp2_with fail
      clear q0 q1 q2 q3 q4 qs s0
      refine (ownMem_any M _ aH aF aL cS cH cF cL w32 (HE32.out.ans (.tail _ (.tail _ (.tail _ (.tail _ (.tail _ (.head _))))))).at_).mono ?_
      rintro e w40 ⟨gS2, gH2, gF2, gL2, kS2, kH2, kF2, kL2, rfl, rw40, hb40⟩
      have bc40 : Below w7.heap.size w7 w40 := b32.trans (hb40.mono b32.size)
      have HBx40 : Hid (w40.heap[B8]? = _) := (hb40.block _ (lt_of_block HBx.out)).trans HBx.out
      have HM40 : Hid (Mine (set5 w40 B8 (.slice gS2 M.slots.length kS2) (.slice gH2 M.heads.length kH2) (.slice gF2 M.free.length kF2) (.slice gL2 M.locks.length kL2) (.int .i64 M.now)) B8 w32.heap.size gS2 gH2 gF2 gL2 kS2 kH2 kF2 kL2 M) := Mine.stored rw40 HBx40.out m1 m2 (by omega) m4
      have bs40 : Below w7.heap.size w7 (set5 w40 B8 (.slice gS2 M.slots.length kS2) (.slice gH2 M.heads.length kH2) (.slice gF2 M.free.length kF2) (.slice gL2 M.locks.length kL2) (.int .i64 M.now)) := bc40.trans (set5_below w40 B8 w7.heap.size _ _ _ _ _ HZ8.out)
      have HLz40 : Hid (w7.heap.size ≤ w32.heap.size) := b32.size
      obtain ⟨v0, v1, v2, v3, v4, f0, f1, f2, f3, f4, vs⟩ := boxf HBx40.out
      clear rw40 hb40 bc40
      go_wp2_with fail
      rw [show ((((w40.setCell ⟨B8, 0, none⟩ (.slice gS2 M.slots.length kS2)).setCell ⟨B8, 1, none⟩ (.slice gH2 M.heads.length kH2)).setCell ⟨B8, 2, none⟩ (.slice gF2 M.free.length kF2)).setCell ⟨B8, 3, none⟩ (.slice gL2 M.locks.length kL2)).setCell ⟨B8, 4, none⟩ (.int .i64 M.now) = set5 w40 B8 (.slice gS2 M.slots.length kS2) (.slice gH2 M.heads.length kH2) (.slice gF2 M.free.length kF2) (.slice gL2 M.locks.length kL2) (.int .i64 M.now) from rfl]
      clear v0 v1 v2 v3 v4 f0 f1 f2 f3 f4 vs HBx40
      generalize set5 w40 B8 (.slice gS2 M.slots.length kS2) (.slice gH2 M.heads.length kH2) (.slice gF2 M.free.length kF2) (.slice gL2 M.locks.length kL2) (.int .i64 M.now) = W40 at *
      refine (rput_at HL0.out W40 _ _ _ _ _ _ _ _ _ _ HM40.out (by omega) (by omega) (by omega) (by omega) (by omega)).mono ?_
      rintro e w41 ⟨rfl, uS', uH', uF', uL', lS', lH', lF', lL', m41, k41⟩
      have b41 : Below w7.heap.size w7 w41 := bs40.trans (k41.down (n := w7.heap.size) HLz40.out HZ8.out)
      have HM41 : Hid _ := m41
      have HE41 : Hid _ := HE7.out.below b41
      clear m41 k41 bs40 HM40
      obtain ⟨p0, p1, p2, p3, p4, -, -, -, -, -, ps⟩ := boxf (HE41.out.box _ (.tail _ (.head _)))
      obtain ⟨r0, r1, r2, r3, r4, -, -, -, -, -, rs⟩ := boxf HM41.out.box
      go_wp2_with fail
      clear p0 p1 p2 p3 p4 ps r0 r1 r2 r3 r4 rs
      refine (rsame_eq rfl (HE41.out.ans (.tail _ (.head _))) HM41.out.ans).mono ?_
      rintro e w42 ⟨rfl, hb42⟩
      have HE42 : Hid _ := HE41.out.below hb42
      go_wp2
      go_ret
      exact ⟨rfl, HE42.out.bl⟩
    have o1 : heldE M j = 0 := by unfold heldE; rw [if_neg (by simpa using HC0.out), if_neg (by rw [HSl.out]; simp), if_neg hr]
    have HH0 : Hid (MH = holdM M j) := HMH.out.trans (by unfold heldM; rw [o1, if_pos rfl])
    have e3 : eH = 0 := HeH.out.trans o1
    subst e3
    clear o1
    refine (rhold_at HH0.out W30 _ _ _ _ _ _ _ _ _ _ HM30.out (by omega) (by omega) (by omega) (by omega)).mono ?_
    rintro e w31 ⟨rfl, uS, uH, uF, uL, lS, lH, lF, lL, m31, k31⟩
    have b31 : Below w7.heap.size w7 w31 := bs30.trans (k31.down (n := w7.heap.size) HLz30.out HZ8.out)
    have HM31 : Hid _ := m31
    have HE31 : Hid _ := HE7.out.below b31
    clear m31 k31 bs30 HM30
    obtain ⟨p0, p1, p2, p3, p4, -, -, -, -, -, ps⟩ := boxf (HE31.out.box _ (.tail _ (.tail _ (.head _))))
    obtain ⟨r0, r1, r2, r3, r4, -, -, -, -, -, rs⟩ := boxf HM31.out.box
    go_wp2_with fail
    clear p0 p1 p2 p3 p4 ps r0 r1 r2 r3 r4 rs
    refine (rsame_eq rfl (HE31.out.ans (.tail _ (.tail _ (.head _)))) HM31.out.ans).mono ?_
    rintro e w32 ⟨rfl, hb32⟩
    have HBx32 : Hid (w32.heap[B8]? = _) := (hb32.block _ (lt_of_block HM31.out.box)).trans HM31.out.box
    have b32 : Below w7.heap.size w7 w32 := b31.trans (hb32.mono b31.size)
    clear hb32 HE31 b31 HM31 HBx HEc bc hr
    have HBx : Hid _ := HBx32.out
    have HE32 : Hid _ := HE7.out.below b32
    clear HBx32
    have hrr := refsM_at M j hj
    rcases (HE32.out.ans (.tail _ (.tail _ (.tail _ (.tail _ (.tail _ (.head _))))))).at_.s.at_ with h0 | ⟨bs, os, rfl, hcs⟩
    · omega
    obtain ⟨s0, -⟩ := hcs j hj
    rw [← hrr] at s0
    clear hcs hrr
    obtain ⟨q0, q1, q2, q3, q4, -, -, -, -, -, qs⟩ := boxf (HE32.out.box _ (.tail _ (.tail _ (.tail _ (.tail _ (.tail _ (.tail _ (.head _))))))))
    by_cases hz : refsM M j = 0
    · have o2 : letE M j = 8 := by unfold letE; rw [if_neg (by simpa using HC0.out), if_neg (by rw [HSl.out]; simp), if_pos hz]
      have HL0 : Hid (ML = m0) := HML.out.trans (by unfold letM; rw [o2, if_neg (by decide)])
      have e4 : eL = 8 := HeL.out.trans o2
      subst e4
      rw [hz] at s0
      clear o2
      obtain ⟨p0, p1, p2, p3, p4, -, -, -, -, -, ps⟩ := boxf (HE32.out.box _ (.tail _ (.head _)))
      obtain ⟨r0, r1, r2, r3, r4, -, -, -, -, -, rs⟩ := boxf (HE32.out.box _ (.head _))
      go_wp2_with fail
      clear p0 p1 p2 p3 p4 ps r0 r1 r2 r3 r4 rs q0 q1 q2 q3 q4 qs
      refine (rsame_eq HL0.out (HE32.out.ans (.tail _ (.head _))) (HE32.out.ans (.head _))).mono ?_
      rintro e w33 ⟨rfl, hb33⟩
      have HE33 : Hid _ := HE32.out.below hb33
      go_wp2
      go_ret
      exact ⟨rfl, HE33.out.bl⟩
    have o2 : letE M j = 0 := by unfold letE; rw [if_neg (by simpa using HC0.out), if_neg (by rw [HSl.out]; simp), if_neg hz]
    have HL0 : Hid (ML = putM M j) := HML.out.trans (by unfold letM; rw [o2, if_pos rfl])
    have e4 : eL = 0 := HeL.out.trans o2
    subst e4
    clear o2
    have hz' : (refsM M j == 0) = false := by simpa using hz
    go_wp2_with fail
    clear q0 q1 q2 q3 q4 qs s0
    refine (ownMem_any M _ aH aF aL cS cH cF cL w32 (HE32.out.ans (.tail _ (.tail _ (.tail _ (.tail _ (.tail _ (.head _))))))).at_).mono ?_
    rintro e w40 ⟨gS2, gH2, gF2, gL2, kS2, kH2, kF2, kL2, rfl, rw40, hb40⟩
    have bc40 : Below w7.heap.size w7 w40 := b32.trans (hb40.mono b32.size)
    have HBx40 : Hid (w40.heap[B8]? = _) := (hb40.block _ (lt_of_block HBx.out)).trans HBx.out
    have HM40 : Hid (Mine (set5 w40 B8 (.slice gS2 M.slots.length kS2) (.slice gH2 M.heads.length kH2) (.slice gF2 M.free.length kF2) (.slice gL2 M.locks.length kL2) (.int .i64 M.now)) B8 w32.heap.size gS2 gH2 gF2 gL2 kS2 kH2 kF2 kL2 M) := Mine.stored rw40 HBx40.out m1 m2 (by omega) m4
    have bs40 : Below w7.heap.size w7 (set5 w40 B8 (.slice gS2 M.slots.length kS2) (.slice gH2 M.heads.length kH2) (.slice gF2 M.free.length kF2) (.slice gL2 M.locks.length kL2) (.int .i64 M.now)) := bc40.trans (set5_below w40 B8 w7.heap.size _ _ _ _ _ HZ8.out)
    have HLz40 : Hid (w7.heap.size ≤ w32.heap.size) := b32.size
    obtain ⟨v0, v1, v2, v3, v4, f0, f1, f2, f3, f4, vs⟩ := boxf HBx40.out
    clear rw40 hb40 bc40
    go_wp2_with fail
    rw [show ((((w40.setCell ⟨B8, 0, none⟩ (.slice gS2 M.slots.length kS2)).setCell ⟨B8, 1, none⟩ (.slice gH2 M.heads.length kH2)).setCell ⟨B8, 2, none⟩ (.slice gF2 M.free.length kF2)).setCell ⟨B8, 3, none⟩ (.slice gL2 M.locks.length kL2)).setCell ⟨B8, 4, none⟩ (.int .i64 M.now) = set5 w40 B8 (.slice gS2 M.slots.length kS2) (.slice gH2 M.heads.length kH2) (.slice gF2 M.free.length kF2) (.slice gL2 M.locks.length kL2) (.int .i64 M.now) from rfl]
    clear v0 v1 v2 v3 v4 f0 f1 f2 f3 f4 vs HBx40
    generalize set5 w40 B8 (.slice gS2 M.slots.length kS2) (.slice gH2 M.heads.length kH2) (.slice gF2 M.free.length kF2) (.slice gL2 M.locks.length kL2) (.int .i64 M.now) = W40 at *
    refine (rput_at HL0.out W40 _ _ _ _ _ _ _ _ _ _ HM40.out (by omega) (by omega) (by omega) (by omega) (by omega)).mono ?_
    rintro e w41 ⟨rfl, uS', uH', uF', uL', lS', lH', lF', lL', m41, k41⟩
    have b41 : Below w7.heap.size w7 w41 := bs40.trans (k41.down (n := w7.heap.size) HLz40.out HZ8.out)
    have HM41 : Hid _ := m41
    have HE41 : Hid _ := HE7.out.below b41
    clear m41 k41 bs40 HM40
    obtain ⟨p0, p1, p2, p3, p4, -, -, -, -, -, ps⟩ := boxf (HE41.out.box _ (.tail _ (.head _)))
    obtain ⟨r0, r1, r2, r3, r4, -, -, -, -, -, rs⟩ := boxf HM41.out.box
    go_wp2_with fail
    clear p0 p1 p2 p3 p4 ps r0 r1 r2 r3 r4 rs
    refine (rsame_eq rfl (HE41.out.ans (.tail _ (.head _))) HM41.out.ans).mono ?_
    rintro e w42 ⟨rfl, hb42⟩
    have HE42 : Hid _ := HE41.out.below hb42
    go_wp2
    go_ret
    exact ⟨rfl, HE42.out.bl⟩

  rcases Int.lt_or_le 2000000 u with hu1 | hu1
  · have o1 : takenE M ka kb u = 3 := by unfold takenE; rw [if_neg (by simpa using HC0.out), if_neg (by rw [hK]; simp), if_pos (by simp [inB]; omega)]
    obtain ⟨o2, o3⟩ := takes_no o1 (by decide)
    have HT0 : Hid (MT = m0) := HMT.out.trans o3
    have e1 : eT = 3 := HeT.out.trans o1
    have e2 : nT = 0 := HnT.out.trans o2
    subst e1 e2
    clear o1 o2 o3
    have HE9 : Hid _ := HE7.out.below b9
    obtain ⟨p0, p1, p2, p3, p4, -, -, -, -, -, ps⟩ := boxf (HE9.out.box _ (.tail _ (.tail _ (.tail _ (.head _)))))
    obtain ⟨r0, r1, r2, r3, r4, -, -, -, -, -, rs⟩ := boxf (HE9.out.box _ (.head _))
    go_wp2_with fail
    clear p0 p1 p2 p3 p4 ps r0 r1 r2 r3 r4 rs
    refine (rsame_eq HT0.out (HE9.out.ans (.tail _ (.tail _ (.tail _ (.head _))))) (HE9.out.ans (.head _))).mono ?_
    rintro e wc ⟨rfl, hbc⟩
    have bc : Below w7.heap.size w7 wc := b9.trans (hbc.mono b9.size)
    have HBx : Hid (wc.heap[B8]? = _) := (hbc.block _ (lt_of_block HM9.out.box)).trans HM9.out.box
    clear hbc HE9 HM9 b9
    have HEc : Hid _ := HE7.out.below bc
    obtain ⟨q0, q1, q2, q3, q4, -, -, -, -, -, qs⟩ := boxf (HEc.out.box _ (.tail _ (.tail _ (.tail _ (.tail _ (.tail _ (.tail _ (.head _))))))))
    rcases Int.lt_or_le i 0 with hi0 | hi0
    · have o1 : heldE M i = 5 := by unfold heldE; rw [if_neg (by simpa using HC0.out), if_pos (by simp [isSl, inB]; omega)]
      have o2 : letE M i = 5 := by unfold letE; rw [if_neg (by simpa using HC0.out), if_pos (by simp [isSl, inB]; omega)]
      have HH0 : Hid (MH = m0) := HMH.out.trans (by unfold heldM; rw [o1, if_neg (by decide)])
      have HL0 : Hid (ML = m0) := HML.out.trans (by unfold letM; rw [o2, if_neg (by decide)])
      have e3 : eH = 5 := HeH.out.trans o1
      have e4 : eL = 5 := HeL.out.trans o2
      subst e3 e4
      clear o1 o2
      obtain ⟨p0, p1, p2, p3, p4, -, -, -, -, -, ps⟩ := boxf (HEc.out.box _ (.tail _ (.tail _ (.head _))))
      obtain ⟨r0, r1, r2, r3, r4, -, -, -, -, -, rs⟩ := boxf (HEc.out.box _ (.head _))
      go_wp2_with fail
      clear p0 p1 p2 p3 p4 ps r0 r1 r2 r3 r4 rs q0 q1 q2 q3 q4 qs
      refine (rsame_eq HH0.out (HEc.out.ans (.tail _ (.tail _ (.head _)))) (HEc.out.ans (.head _))).mono ?_
      rintro e w20 ⟨rfl, hb20⟩
      have HE20 : Hid _ := HEc.out.below hb20
      obtain ⟨p0, p1, p2, p3, p4, -, -, -, -, -, ps⟩ := boxf (HE20.out.box _ (.tail _ (.head _)))
      obtain ⟨r0, r1, r2, r3, r4, -, -, -, -, -, rs⟩ := boxf (HE20.out.box _ (.head _))
      go_wp2_with fail
      clear p0 p1 p2 p3 p4 ps r0 r1 r2 r3 r4 rs
      refine (rsame_eq HL0.out (HE20.out.ans (.tail _ (.head _))) (HE20.out.ans (.head _))).mono ?_
      rintro e w21 ⟨rfl, hb21⟩
      have HE21 : Hid _ := HE20.out.below hb21
      go_wp2
      go_ret
      exact ⟨rfl, HE21.out.bl⟩
    rcases Int.lt_or_le i M.slots.length with hi1 | hi1
    rotate_left
    · have o1 : heldE M i = 5 := by unfold heldE; rw [if_neg (by simpa using HC0.out), if_pos (by simp [isSl, inB]; omega)]
      have o2 : letE M i = 5 := by unfold letE; rw [if_neg (by simpa using HC0.out), if_pos (by simp [isSl, inB]; omega)]
      have HH0 : Hid (MH = m0) := HMH.out.trans (by unfold heldM; rw [o1, if_neg (by decide)])
      have HL0 : Hid (ML = m0) := HML.out.trans (by unfold letM; rw [o2, if_neg (by decide)])
      have e3 : eH = 5 := HeH.out.trans o1
      have e4 : eL = 5 := HeL.out.trans o2
      subst e3 e4
      clear o1 o2
      obtain ⟨p0, p1, p2, p3, p4, -, -, -, -, -, ps⟩ := boxf (HEc.out.box _ (.tail _ (.tail _ (.head _))))
      obtain ⟨r0, r1, r2, r3, r4, -, -, -, -, -, rs⟩ := boxf (HEc.out.box _ (.head _))
      go_wp2_with fail
      clear p0 p1 p2 p3 p4 ps r0 r1 r2 r3 r4 rs q0 q1 q2 q3 q4 qs
      refine (rsame_eq HH0.out (HEc.out.ans (.tail _ (.tail _ (.head _)))) (HEc.out.ans (.head _))).mono ?_
      rintro e w20 ⟨rfl, hb20⟩
      have HE20 : Hid _ := HEc.out.below hb20
      obtain ⟨p0, p1, p2, p3, p4, -, -, -, -, -, ps⟩ := boxf (HE20.out.box _ (.tail _ (.head _)))
      obtain ⟨r0, r1, r2, r3, r4, -, -, -, -, -, rs⟩ := boxf (HE20.out.box _ (.head _))
      go_wp2_with fail
      clear p0 p1 p2 p3 p4 ps r0 r1 r2 r3 r4 rs
      refine (rsame_eq HL0.out (HE20.out.ans (.tail _ (.head _))) (HE20.out.ans (.head _))).mono ?_
      rintro e w21 ⟨rfl, hb21⟩
      have HE21 : Hid _ := HE20.out.below hb21
      go_wp2
      go_ret
      exact ⟨rfl, HE21.out.bl⟩
    obtain ⟨j, rfl⟩ : ∃ j : Nat, i = j := ⟨i.toNat, by omega⟩
    have hj : j < M.slots.length := by omega
    have hsl : isSl M j = true := (inB_iff _ _ _).2 ⟨by omega, by omega⟩
    obtain ⟨-, -, hr0, hr1⟩ := refs_in HC0.out hsl
    have HSl : Hid (isSl M j = true) := hsl
    clear hsl
    go_wp2_with fail
    clear q0 q1 q2 q3 q4 qs
    refine (ownMem_any M aS aH aF aL cS cH cF cL wc (HEc.out.ans (.tail _ (.tail _ (.tail _ (.tail _ (.tail _ (.head _))))))).at_).mono ?_
    rintro e w30 ⟨gS2, gH2, gF2, gL2, kS2, kH2, kF2, kL2, rfl, rw30, hb30⟩
    have bc30 : Below w7.heap.size w7 w30 := bc.trans (hb30.mono bc.size)
    have HBx30 : Hid (w30.heap[B8]? = _) := (hb30.block _ (lt_of_block HBx.out)).trans HBx.out
    have HM30 : Hid (Mine (set5 w30 B8 (.slice gS2 M.slots.length kS2) (.slice gH2 M.heads.length kH2) (.slice gF2 M.free.length kF2) (.slice gL2 M.locks.length kL2) (.int .i64 M.now)) B8 wc.heap.size gS2 gH2 gF2 gL2 kS2 kH2 kF2 kL2 M) := Mine.stored rw30 HBx30.out m1 m2 (by omega) m4
    have bs30 : Below w7.heap.size w7 (set5 w30 B8 (.slice gS2 M.slots.length kS2) (.slice gH2 M.heads.length kH2) (.slice gF2 M.free.length kF2) (.slice gL2 M.locks.length kL2) (.int .i64 M.now)) := bc30.trans (set5_below w30 B8 w7.heap.size _ _ _ _ _ HZ8.out)
    have HLz30 : Hid (w7.heap.size ≤ wc.heap.size) := bc.size
    obtain ⟨v0, v1, v2, v3, v4, f0, f1, f2, f3, f4, vs⟩ := boxf HBx30.out
    clear rw30 hb30 bc30
    go_wp2_with fail
    rw [show ((((w30.setCell ⟨B8, 0, none⟩ (.slice gS2 M.slots.length kS2)).setCell ⟨B8, 1, none⟩ (.slice gH2 M.heads.length kH2)).setCell ⟨B8, 2, none⟩ (.slice gF2 M.free.length kF2)).setCell ⟨B8, 3, none⟩ (.slice gL2 M.locks.length kL2)).setCell ⟨B8, 4, none⟩ (.int .i64 M.now) = set5 w30 B8 (.slice gS2 M.slots.length kS2) (.slice gH2 M.heads.length kH2) (.slice gF2 M.free.length kF2) (.slice gL2 M.locks.length kL2) (.int .i64 M.now) from rfl]
    clear v0 v1 v2 v3 v4 f0 f1 f2 f3 f4 vs HBx30
    generalize set5 w30 B8 (.slice gS2 M.slots.length kS2) (.slice gH2 M.heads.length kH2) (.slice gF2 M.free.length kF2) (.slice gL2 M.locks.length kL2) (.int .i64 M.now) = W30 at *
    by_cases hr : refsM M j = 0 ∨ refsM M j = 1000
    · have o1 : heldE M j = 8 := by unfold heldE; rw [if_neg (by simpa using HC0.out), if_neg (by rw [HSl.out]; simp), if_pos hr]
      have HH0 : Hid (MH = m0) := HMH.out.trans (by unfold heldM; rw [o1, if_neg (by decide)])
      have e3 : eH = 8 := HeH.out.trans o1
      subst e3
      clear o1
      refine (rhold_fail M W30 _ _ _ _ _ _ _ _ _ _ j HM30.out (by omega) (by omega) (by omega)).mono ?_
      rintro e w31 ⟨rfl, rfl⟩
      have HE31 : Hid _ := HE7.out.below bs30
      obtain ⟨p0, p1, p2, p3, p4, -, -, -, -, -, ps⟩ := boxf (HE31.out.box _ (.tail _ (.tail _ (.head _))))
      obtain ⟨r0, r1, r2, r3, r4, -, -, -, -, -, rs⟩ := boxf (HE31.out.box _ (.head _))
      go_wp2_with fail
      clear p0 p1 p2 p3 p4 ps r0 r1 r2 r3 r4 rs
      refine (rsame_eq HH0.out (HE31.out.ans (.tail _ (.tail _ (.head _)))) (HE31.out.ans (.head _))).mono ?_
      rintro e w32 ⟨rfl, hb32⟩
      have HBx32 : Hid (w32.heap[B8]? = _) := (hb32.block _ (lt_of_block HM30.out.box)).trans HM30.out.box
      have b32 : Below w7.heap.size w7 w32 := bs30.trans (hb32.mono bs30.size)
      clear hb32 HE31 bs30 HM30 HBx HEc bc hr
      have HBx : Hid _ := HBx32.out
      have HE32 : Hid _ := HE7.out.below b32
      clear HBx32
      have hrr := refsM_at M j hj
      rcases (HE32.out.ans (.tail _ (.tail _ (.tail _ (.tail _ (.tail _ (.head _))))))).at_.s.at_ with h0 | ⟨bs, os, rfl, hcs⟩
      · omega
      obtain ⟨s0, -⟩ := hcs j hj
      rw [← hrr] at s0
      clear hcs hrr
      obtain ⟨q0, q1, q2, q3, q4, -, -, -, -, -, qs⟩ := boxf (HE32.out.box _ (.tail _ (.tail _ (.tail _ (.tail _ (.tail _ (.tail _ (.head _))))))))
      by_cases hz : refsM M j = 0
      · have o2 : letE M j = 8 := by unfold letE; rw [if_neg (by simpa using HC0.out), if_neg (by rw [HSl.out]; simp), if_pos hz]
        have HL0 : Hid (ML = m0) := HML.out.trans (by unfold letM; rw [o2, if_neg (by decide)])
        have e4 : eL = 8 := HeL.out.trans o2
        subst e4
        rw [hz] at s0
        clear o2
        obtain ⟨p0, p1, p2, p3, p4, -, -, -, -, -, ps⟩ := boxf (HE32.out.box _ (.tail _ (.head _)))
        obtain ⟨r0, r1, r2, r3, r4, -, -, -, -, -, rs⟩ := boxf (HE32.out.box _ (.head _))
        go_wp2_with fail
        clear p0 p1 p2 p3 p4 ps r0 r1 r2 r3 r4 rs q0 q1 q2 q3 q4 qs
        refine (rsame_eq HL0.out (HE32.out.ans (.tail _ (.head _))) (HE32.out.ans (.head _))).mono ?_
        rintro e w33 ⟨rfl, hb33⟩
        have HE33 : Hid _ := HE32.out.below hb33
        go_wp2
        go_ret
        exact ⟨rfl, HE33.out.bl⟩
      have o2 : letE M j = 0 := by unfold letE; rw [if_neg (by simpa using HC0.out), if_neg (by rw [HSl.out]; simp), if_neg hz]
      have HL0 : Hid (ML = putM M j) := HML.out.trans (by unfold letM; rw [o2, if_pos rfl])
      have e4 : eL = 0 := HeL.out.trans o2
      subst e4
      clear o2
      have hz' : (refsM M j == 0) = false := by simpa using hz
      go_wp2_with fail
      clear q0 q1 q2 q3 q4 qs s0
      refine (ownMem_any M _ aH aF aL cS cH cF cL w32 (HE32.out.ans (.tail _ (.tail _ (.tail _ (.tail _ (.tail _ (.head _))))))).at_).mono ?_
      rintro e w40 ⟨gS2, gH2, gF2, gL2, kS2, kH2, kF2, kL2, rfl, rw40, hb40⟩
      have bc40 : Below w7.heap.size w7 w40 := b32.trans (hb40.mono b32.size)
      have HBx40 : Hid (w40.heap[B8]? = _) := (hb40.block _ (lt_of_block HBx.out)).trans HBx.out
      have HM40 : Hid (Mine (set5 w40 B8 (.slice gS2 M.slots.length kS2) (.slice gH2 M.heads.length kH2) (.slice gF2 M.free.length kF2) (.slice gL2 M.locks.length kL2) (.int .i64 M.now)) B8 w32.heap.size gS2 gH2 gF2 gL2 kS2 kH2 kF2 kL2 M) := Mine.stored rw40 HBx40.out m1 m2 (by omega) m4
      have bs40 : Below w7.heap.size w7 (set5 w40 B8 (.slice gS2 M.slots.length kS2) (.slice gH2 M.heads.length kH2) (.slice gF2 M.free.length kF2) (.slice gL2 M.locks.length kL2) (.int .i64 M.now)) := bc40.trans (set5_below w40 B8 w7.heap.size _ _ _ _ _ HZ8.out)
      have HLz40 : Hid (w7.heap.size ≤ w32.heap.size) := b32.size
      obtain ⟨v0, v1, v2, v3, v4, f0, f1, f2, f3, f4, vs⟩ := boxf HBx40.out
      clear rw40 hb40 bc40
      go_wp2_with fail
      rw [show ((((w40.setCell ⟨B8, 0, none⟩ (.slice gS2 M.slots.length kS2)).setCell ⟨B8, 1, none⟩ (.slice gH2 M.heads.length kH2)).setCell ⟨B8, 2, none⟩ (.slice gF2 M.free.length kF2)).setCell ⟨B8, 3, none⟩ (.slice gL2 M.locks.length kL2)).setCell ⟨B8, 4, none⟩ (.int .i64 M.now) = set5 w40 B8 (.slice gS2 M.slots.length kS2) (.slice gH2 M.heads.length kH2) (.slice gF2 M.free.length kF2) (.slice gL2 M.locks.length kL2) (.int .i64 M.now) from rfl]
      clear v0 v1 v2 v3 v4 f0 f1 f2 f3 f4 vs HBx40
      generalize set5 w40 B8 (.slice gS2 M.slots.length kS2) (.slice gH2 M.heads.length kH2) (.slice gF2 M.free.length kF2) (.slice gL2 M.locks.length kL2) (.int .i64 M.now) = W40 at *
      refine (rput_at HL0.out W40 _ _ _ _ _ _ _ _ _ _ HM40.out (by omega) (by omega) (by omega) (by omega) (by omega)).mono ?_
      rintro e w41 ⟨rfl, uS', uH', uF', uL', lS', lH', lF', lL', m41, k41⟩
      have b41 : Below w7.heap.size w7 w41 := bs40.trans (k41.down (n := w7.heap.size) HLz40.out HZ8.out)
      have HM41 : Hid _ := m41
      have HE41 : Hid _ := HE7.out.below b41
      clear m41 k41 bs40 HM40
      obtain ⟨p0, p1, p2, p3, p4, -, -, -, -, -, ps⟩ := boxf (HE41.out.box _ (.tail _ (.head _)))
      obtain ⟨r0, r1, r2, r3, r4, -, -, -, -, -, rs⟩ := boxf HM41.out.box
      go_wp2_with fail
      clear p0 p1 p2 p3 p4 ps r0 r1 r2 r3 r4 rs
      refine (rsame_eq rfl (HE41.out.ans (.tail _ (.head _))) HM41.out.ans).mono ?_
      rintro e w42 ⟨rfl, hb42⟩
      have HE42 : Hid _ := HE41.out.below hb42
      go_wp2
      go_ret
      exact ⟨rfl, HE42.out.bl⟩
    have o1 : heldE M j = 0 := by unfold heldE; rw [if_neg (by simpa using HC0.out), if_neg (by rw [HSl.out]; simp), if_neg hr]
    have HH0 : Hid (MH = holdM M j) := HMH.out.trans (by unfold heldM; rw [o1, if_pos rfl])
    have e3 : eH = 0 := HeH.out.trans o1
    subst e3
    clear o1
    refine (rhold_at HH0.out W30 _ _ _ _ _ _ _ _ _ _ HM30.out (by omega) (by omega) (by omega) (by omega)).mono ?_
    rintro e w31 ⟨rfl, uS, uH, uF, uL, lS, lH, lF, lL, m31, k31⟩
    have b31 : Below w7.heap.size w7 w31 := bs30.trans (k31.down (n := w7.heap.size) HLz30.out HZ8.out)
    have HM31 : Hid _ := m31
    have HE31 : Hid _ := HE7.out.below b31
    clear m31 k31 bs30 HM30
    obtain ⟨p0, p1, p2, p3, p4, -, -, -, -, -, ps⟩ := boxf (HE31.out.box _ (.tail _ (.tail _ (.head _))))
    obtain ⟨r0, r1, r2, r3, r4, -, -, -, -, -, rs⟩ := boxf HM31.out.box
    go_wp2_with fail
    clear p0 p1 p2 p3 p4 ps r0 r1 r2 r3 r4 rs
    refine (rsame_eq rfl (HE31.out.ans (.tail _ (.tail _ (.head _)))) HM31.out.ans).mono ?_
    rintro e w32 ⟨rfl, hb32⟩
    have HBx32 : Hid (w32.heap[B8]? = _) := (hb32.block _ (lt_of_block HM31.out.box)).trans HM31.out.box
    have b32 : Below w7.heap.size w7 w32 := b31.trans (hb32.mono b31.size)
    clear hb32 HE31 b31 HM31 HBx HEc bc hr
    have HBx : Hid _ := HBx32.out
    have HE32 : Hid _ := HE7.out.below b32
    clear HBx32
    have hrr := refsM_at M j hj
    rcases (HE32.out.ans (.tail _ (.tail _ (.tail _ (.tail _ (.tail _ (.head _))))))).at_.s.at_ with h0 | ⟨bs, os, rfl, hcs⟩
    · omega
    obtain ⟨s0, -⟩ := hcs j hj
    rw [← hrr] at s0
    clear hcs hrr
    obtain ⟨q0, q1, q2, q3, q4, -, -, -, -, -, qs⟩ := boxf (HE32.out.box _ (.tail _ (.tail _ (.tail _ (.tail _ (.tail _ (.tail _ (.head _))))))))
    by_cases hz : refsM M j = 0
    · have o2 : letE M j = 8 := by unfold letE; rw [if_neg (by simpa using HC0.out), if_neg (by rw [HSl.out]; simp), if_pos hz]
      have HL0 : Hid (ML = m0) := HML.out.trans (by unfold letM; rw [o2, if_neg (by decide)])
      have e4 : eL = 8 := HeL.out.trans o2
      subst e4
      rw [hz] at s0
      clear o2
      obtain ⟨p0, p1, p2, p3, p4, -, -, -, -, -, ps⟩ := boxf (HE32.out.box _ (.tail _ (.head _)))
      obtain ⟨r0, r1, r2, r3, r4, -, -, -, -, -, rs⟩ := boxf (HE32.out.box _ (.head _))
      go_wp2_with fail
      clear p0 p1 p2 p3 p4 ps r0 r1 r2 r3 r4 rs q0 q1 q2 q3 q4 qs
      refine (rsame_eq HL0.out (HE32.out.ans (.tail _ (.head _))) (HE32.out.ans (.head _))).mono ?_
      rintro e w33 ⟨rfl, hb33⟩
      have HE33 : Hid _ := HE32.out.below hb33
      go_wp2
      go_ret
      exact ⟨rfl, HE33.out.bl⟩
    have o2 : letE M j = 0 := by unfold letE; rw [if_neg (by simpa using HC0.out), if_neg (by rw [HSl.out]; simp), if_neg hz]
    have HL0 : Hid (ML = putM M j) := HML.out.trans (by unfold letM; rw [o2, if_pos rfl])
    have e4 : eL = 0 := HeL.out.trans o2
    subst e4
    clear o2
    have hz' : (refsM M j == 0) = false := by simpa using hz
    go_wp2_with fail
    clear q0 q1 q2 q3 q4 qs s0
    refine (ownMem_any M _ aH aF aL cS cH cF cL w32 (HE32.out.ans (.tail _ (.tail _ (.tail _ (.tail _ (.tail _ (.head _))))))).at_).mono ?_
    rintro e w40 ⟨gS2, gH2, gF2, gL2, kS2, kH2, kF2, kL2, rfl, rw40, hb40⟩
    have bc40 : Below w7.heap.size w7 w40 := b32.trans (hb40.mono b32.size)
    have HBx40 : Hid (w40.heap[B8]? = _) := (hb40.block _ (lt_of_block HBx.out)).trans HBx.out
    have HM40 : Hid (Mine (set5 w40 B8 (.slice gS2 M.slots.length kS2) (.slice gH2 M.heads.length kH2) (.slice gF2 M.free.length kF2) (.slice gL2 M.locks.length kL2) (.int .i64 M.now)) B8 w32.heap.size gS2 gH2 gF2 gL2 kS2 kH2 kF2 kL2 M) := Mine.stored rw40 HBx40.out m1 m2 (by omega) m4
    have bs40 : Below w7.heap.size w7 (set5 w40 B8 (.slice gS2 M.slots.length kS2) (.slice gH2 M.heads.length kH2) (.slice gF2 M.free.length kF2) (.slice gL2 M.locks.length kL2) (.int .i64 M.now)) := bc40.trans (set5_below w40 B8 w7.heap.size _ _ _ _ _ HZ8.out)
    have HLz40 : Hid (w7.heap.size ≤ w32.heap.size) := b32.size
    obtain ⟨v0, v1, v2, v3, v4, f0, f1, f2, f3, f4, vs⟩ := boxf HBx40.out
    clear rw40 hb40 bc40
    go_wp2_with fail
    rw [show ((((w40.setCell ⟨B8, 0, none⟩ (.slice gS2 M.slots.length kS2)).setCell ⟨B8, 1, none⟩ (.slice gH2 M.heads.length kH2)).setCell ⟨B8, 2, none⟩ (.slice gF2 M.free.length kF2)).setCell ⟨B8, 3, none⟩ (.slice gL2 M.locks.length kL2)).setCell ⟨B8, 4, none⟩ (.int .i64 M.now) = set5 w40 B8 (.slice gS2 M.slots.length kS2) (.slice gH2 M.heads.length kH2) (.slice gF2 M.free.length kF2) (.slice gL2 M.locks.length kL2) (.int .i64 M.now) from rfl]
    clear v0 v1 v2 v3 v4 f0 f1 f2 f3 f4 vs HBx40
    generalize set5 w40 B8 (.slice gS2 M.slots.length kS2) (.slice gH2 M.heads.length kH2) (.slice gF2 M.free.length kF2) (.slice gL2 M.locks.length kL2) (.int .i64 M.now) = W40 at *
    refine (rput_at HL0.out W40 _ _ _ _ _ _ _ _ _ _ HM40.out (by omega) (by omega) (by omega) (by omega) (by omega)).mono ?_
    rintro e w41 ⟨rfl, uS', uH', uF', uL', lS', lH', lF', lL', m41, k41⟩
    have b41 : Below w7.heap.size w7 w41 := bs40.trans (k41.down (n := w7.heap.size) HLz40.out HZ8.out)
    have HM41 : Hid _ := m41
    have HE41 : Hid _ := HE7.out.below b41
    clear m41 k41 bs40 HM40
    obtain ⟨p0, p1, p2, p3, p4, -, -, -, -, -, ps⟩ := boxf (HE41.out.box _ (.tail _ (.head _)))
    obtain ⟨r0, r1, r2, r3, r4, -, -, -, -, -, rs⟩ := boxf HM41.out.box
    go_wp2_with fail
    clear p0 p1 p2 p3 p4 ps r0 r1 r2 r3 r4 rs
    refine (rsame_eq rfl (HE41.out.ans (.tail _ (.head _))) HM41.out.ans).mono ?_
    rintro e w42 ⟨rfl, hb42⟩
    have HE42 : Hid _ := HE41.out.below hb42
    go_wp2
    go_ret
    exact ⟨rfl, HE42.out.bl⟩

  have hU : inB u 0 2000000 = true := (inB_iff _ _ _).2 ⟨hu0, hu1⟩
  have HE9k : Hid _ := HE7.out.below b9
  obtain ⟨k0, k1⟩ := keyf (HE9k.out.box _ (.tail _ (.tail _ (.tail _ (.tail _ (.tail _ (.head _)))))))
  have ks := HE9k.out.lt (.tail _ (.tail _ (.tail _ (.tail _ (.tail _ (.head _))))))
  by_cases hF : M.free.length = 0
  · have o1 : takenE M ka kb u = 7 := by unfold takenE; rw [if_neg (by simpa using HC0.out), if_neg (by rw [hK]; simp), if_neg (by rw [hU]; simp), if_pos hF]
    obtain ⟨o2, o3⟩ := takes_no o1 (by decide)
    have HT0 : Hid (MT = m0) := HMT.out.trans o3
    have e1 : eT = 7 := HeT.out.trans o1
    have e2 : nT = 0 := HnT.out.trans o2
    subst e1 e2
    clear o1 o2 o3
    have hbx := HM9.out.box
    rw [hF] at hbx
    have HBxx : Hid _ := hbx
    clear hbx hF
    go_wp2_with fail
    clear k0 k1 ks HE9k
    refine (rtake_no w9 B8 _ _ _ _ _ _ ka kb u HBxx.out).mono ?_
    rintro e w10 ⟨rfl, hb10⟩
    have b10 : Below w7.heap.size w7 w10 := b9.trans (hb10.mono b9.size)
    have HB10 : Hid (w10.heap[B8]? = _) := (hb10.block _ (lt_of_block HM9.out.box)).trans HM9.out.box
    clear hb10 b9 HM9 HBxx
    have HE9 : Hid _ := HE7.out.below b10
    obtain ⟨p0, p1, p2, p3, p4, -, -, -, -, -, ps⟩ := boxf (HE9.out.box _ (.tail _ (.tail _ (.tail _ (.head _)))))
    obtain ⟨r0, r1, r2, r3, r4, -, -, -, -, -, rs⟩ := boxf (HE9.out.box _ (.head _))
    go_wp2_with fail
    clear p0 p1 p2 p3 p4 ps r0 r1 r2 r3 r4 rs
    refine (rsame_eq HT0.out (HE9.out.ans (.tail _ (.tail _ (.tail _ (.head _))))) (HE9.out.ans (.head _))).mono ?_
    rintro e wc ⟨rfl, hbc⟩
    have bc : Below w7.heap.size w7 wc := b10.trans (hbc.mono b10.size)
    have HBx : Hid (wc.heap[B8]? = _) := (hbc.block _ (lt_of_block HB10.out)).trans HB10.out
    clear hbc HE9 HB10 b10
    have HEc : Hid _ := HE7.out.below bc
    obtain ⟨q0, q1, q2, q3, q4, -, -, -, -, -, qs⟩ := boxf (HEc.out.box _ (.tail _ (.tail _ (.tail _ (.tail _ (.tail _ (.tail _ (.head _))))))))
    rcases Int.lt_or_le i 0 with hi0 | hi0
    · have o1 : heldE M i = 5 := by unfold heldE; rw [if_neg (by simpa using HC0.out), if_pos (by simp [isSl, inB]; omega)]
      have o2 : letE M i = 5 := by unfold letE; rw [if_neg (by simpa using HC0.out), if_pos (by simp [isSl, inB]; omega)]
      have HH0 : Hid (MH = m0) := HMH.out.trans (by unfold heldM; rw [o1, if_neg (by decide)])
      have HL0 : Hid (ML = m0) := HML.out.trans (by unfold letM; rw [o2, if_neg (by decide)])
      have e3 : eH = 5 := HeH.out.trans o1
      have e4 : eL = 5 := HeL.out.trans o2
      subst e3 e4
      clear o1 o2
      obtain ⟨p0, p1, p2, p3, p4, -, -, -, -, -, ps⟩ := boxf (HEc.out.box _ (.tail _ (.tail _ (.head _))))
      obtain ⟨r0, r1, r2, r3, r4, -, -, -, -, -, rs⟩ := boxf (HEc.out.box _ (.head _))
      go_wp2_with fail
      clear p0 p1 p2 p3 p4 ps r0 r1 r2 r3 r4 rs q0 q1 q2 q3 q4 qs
      refine (rsame_eq HH0.out (HEc.out.ans (.tail _ (.tail _ (.head _)))) (HEc.out.ans (.head _))).mono ?_
      rintro e w20 ⟨rfl, hb20⟩
      have HE20 : Hid _ := HEc.out.below hb20
      obtain ⟨p0, p1, p2, p3, p4, -, -, -, -, -, ps⟩ := boxf (HE20.out.box _ (.tail _ (.head _)))
      obtain ⟨r0, r1, r2, r3, r4, -, -, -, -, -, rs⟩ := boxf (HE20.out.box _ (.head _))
      go_wp2_with fail
      clear p0 p1 p2 p3 p4 ps r0 r1 r2 r3 r4 rs
      refine (rsame_eq HL0.out (HE20.out.ans (.tail _ (.head _))) (HE20.out.ans (.head _))).mono ?_
      rintro e w21 ⟨rfl, hb21⟩
      have HE21 : Hid _ := HE20.out.below hb21
      go_wp2
      go_ret
      exact ⟨rfl, HE21.out.bl⟩
    rcases Int.lt_or_le i M.slots.length with hi1 | hi1
    rotate_left
    · have o1 : heldE M i = 5 := by unfold heldE; rw [if_neg (by simpa using HC0.out), if_pos (by simp [isSl, inB]; omega)]
      have o2 : letE M i = 5 := by unfold letE; rw [if_neg (by simpa using HC0.out), if_pos (by simp [isSl, inB]; omega)]
      have HH0 : Hid (MH = m0) := HMH.out.trans (by unfold heldM; rw [o1, if_neg (by decide)])
      have HL0 : Hid (ML = m0) := HML.out.trans (by unfold letM; rw [o2, if_neg (by decide)])
      have e3 : eH = 5 := HeH.out.trans o1
      have e4 : eL = 5 := HeL.out.trans o2
      subst e3 e4
      clear o1 o2
      obtain ⟨p0, p1, p2, p3, p4, -, -, -, -, -, ps⟩ := boxf (HEc.out.box _ (.tail _ (.tail _ (.head _))))
      obtain ⟨r0, r1, r2, r3, r4, -, -, -, -, -, rs⟩ := boxf (HEc.out.box _ (.head _))
      go_wp2_with fail
      clear p0 p1 p2 p3 p4 ps r0 r1 r2 r3 r4 rs q0 q1 q2 q3 q4 qs
      refine (rsame_eq HH0.out (HEc.out.ans (.tail _ (.tail _ (.head _)))) (HEc.out.ans (.head _))).mono ?_
      rintro e w20 ⟨rfl, hb20⟩
      have HE20 : Hid _ := HEc.out.below hb20
      obtain ⟨p0, p1, p2, p3, p4, -, -, -, -, -, ps⟩ := boxf (HE20.out.box _ (.tail _ (.head _)))
      obtain ⟨r0, r1, r2, r3, r4, -, -, -, -, -, rs⟩ := boxf (HE20.out.box _ (.head _))
      go_wp2_with fail
      clear p0 p1 p2 p3 p4 ps r0 r1 r2 r3 r4 rs
      refine (rsame_eq HL0.out (HE20.out.ans (.tail _ (.head _))) (HE20.out.ans (.head _))).mono ?_
      rintro e w21 ⟨rfl, hb21⟩
      have HE21 : Hid _ := HE20.out.below hb21
      go_wp2
      go_ret
      exact ⟨rfl, HE21.out.bl⟩
    obtain ⟨j, rfl⟩ : ∃ j : Nat, i = j := ⟨i.toNat, by omega⟩
    have hj : j < M.slots.length := by omega
    have hsl : isSl M j = true := (inB_iff _ _ _).2 ⟨by omega, by omega⟩
    obtain ⟨-, -, hr0, hr1⟩ := refs_in HC0.out hsl
    have HSl : Hid (isSl M j = true) := hsl
    clear hsl
    go_wp2_with fail
    clear q0 q1 q2 q3 q4 qs
    refine (ownMem_any M aS aH aF aL cS cH cF cL wc (HEc.out.ans (.tail _ (.tail _ (.tail _ (.tail _ (.tail _ (.head _))))))).at_).mono ?_
    rintro e w30 ⟨gS2, gH2, gF2, gL2, kS2, kH2, kF2, kL2, rfl, rw30, hb30⟩
    have bc30 : Below w7.heap.size w7 w30 := bc.trans (hb30.mono bc.size)
    have HBx30 : Hid (w30.heap[B8]? = _) := (hb30.block _ (lt_of_block HBx.out)).trans HBx.out
    have HM30 : Hid (Mine (set5 w30 B8 (.slice gS2 M.slots.length kS2) (.slice gH2 M.heads.length kH2) (.slice gF2 M.free.length kF2) (.slice gL2 M.locks.length kL2) (.int .i64 M.now)) B8 wc.heap.size gS2 gH2 gF2 gL2 kS2 kH2 kF2 kL2 M) := Mine.stored rw30 HBx30.out m1 m2 (by omega) m4
    have bs30 : Below w7.heap.size w7 (set5 w30 B8 (.slice gS2 M.slots.length kS2) (.slice gH2 M.heads.length kH2) (.slice gF2 M.free.length kF2) (.slice gL2 M.locks.length kL2) (.int .i64 M.now)) := bc30.trans (set5_below w30 B8 w7.heap.size _ _ _ _ _ HZ8.out)
    have HLz30 : Hid (w7.heap.size ≤ wc.heap.size) := bc.size
    obtain ⟨v0, v1, v2, v3, v4, f0, f1, f2, f3, f4, vs⟩ := boxf HBx30.out
    clear rw30 hb30 bc30
    go_wp2_with fail
    rw [show ((((w30.setCell ⟨B8, 0, none⟩ (.slice gS2 M.slots.length kS2)).setCell ⟨B8, 1, none⟩ (.slice gH2 M.heads.length kH2)).setCell ⟨B8, 2, none⟩ (.slice gF2 M.free.length kF2)).setCell ⟨B8, 3, none⟩ (.slice gL2 M.locks.length kL2)).setCell ⟨B8, 4, none⟩ (.int .i64 M.now) = set5 w30 B8 (.slice gS2 M.slots.length kS2) (.slice gH2 M.heads.length kH2) (.slice gF2 M.free.length kF2) (.slice gL2 M.locks.length kL2) (.int .i64 M.now) from rfl]
    clear v0 v1 v2 v3 v4 f0 f1 f2 f3 f4 vs HBx30
    generalize set5 w30 B8 (.slice gS2 M.slots.length kS2) (.slice gH2 M.heads.length kH2) (.slice gF2 M.free.length kF2) (.slice gL2 M.locks.length kL2) (.int .i64 M.now) = W30 at *
    by_cases hr : refsM M j = 0 ∨ refsM M j = 1000
    · have o1 : heldE M j = 8 := by unfold heldE; rw [if_neg (by simpa using HC0.out), if_neg (by rw [HSl.out]; simp), if_pos hr]
      have HH0 : Hid (MH = m0) := HMH.out.trans (by unfold heldM; rw [o1, if_neg (by decide)])
      have e3 : eH = 8 := HeH.out.trans o1
      subst e3
      clear o1
      refine (rhold_fail M W30 _ _ _ _ _ _ _ _ _ _ j HM30.out (by omega) (by omega) (by omega)).mono ?_
      rintro e w31 ⟨rfl, rfl⟩
      have HE31 : Hid _ := HE7.out.below bs30
      obtain ⟨p0, p1, p2, p3, p4, -, -, -, -, -, ps⟩ := boxf (HE31.out.box _ (.tail _ (.tail _ (.head _))))
      obtain ⟨r0, r1, r2, r3, r4, -, -, -, -, -, rs⟩ := boxf (HE31.out.box _ (.head _))
      go_wp2_with fail
      clear p0 p1 p2 p3 p4 ps r0 r1 r2 r3 r4 rs
      refine (rsame_eq HH0.out (HE31.out.ans (.tail _ (.tail _ (.head _)))) (HE31.out.ans (.head _))).mono ?_
      rintro e w32 ⟨rfl, hb32⟩
      have HBx32 : Hid (w32.heap[B8]? = _) := (hb32.block _ (lt_of_block HM30.out.box)).trans HM30.out.box
      have b32 : Below w7.heap.size w7 w32 := bs30.trans (hb32.mono bs30.size)
      clear hb32 HE31 bs30 HM30 HBx HEc bc hr
      have HBx : Hid _ := HBx32.out
      have HE32 : Hid _ := HE7.out.below b32
      clear HBx32
      have hrr := refsM_at M j hj
      rcases (HE32.out.ans (.tail _ (.tail _ (.tail _ (.tail _ (.tail _ (.head _))))))).at_.s.at_ with h0 | ⟨bs, os, rfl, hcs⟩
      · omega
      obtain ⟨s0, -⟩ := hcs j hj
      rw [← hrr] at s0
      clear hcs hrr
      obtain ⟨q0, q1, q2, q3, q4, -, -, -, -, -, qs⟩ := boxf (HE32.out.box _ (.tail _ (.tail _ (.tail _ (.tail _ (.tail _ (.tail _ (.head _))))))))
      by_cases hz : refsM M j = 0
      · have o2 : letE M j = 8 := by unfold letE; rw [if_neg (by simpa using HC0.out), if_neg (by rw [HSl.out]; simp), if_pos hz]
        have HL0 : Hid (ML = m0) := HML.out.trans (by unfold letM; rw [o2, if_neg (by decide)])
        have e4 : eL = 8 := HeL.out.trans o2
        subst e4
        rw [hz] at s0
        clear o2
        obtain ⟨p0, p1, p2, p3, p4, -, -, -, -, -, ps⟩ := boxf (HE32.out.box _ (.tail _ (.head _)))
        obtain ⟨r0, r1, r2, r3, r4, -, -, -, -, -, rs⟩ := boxf (HE32.out.box _ (.head _))
        go_wp2_with fail
        clear p0 p1 p2 p3 p4 ps r0 r1 r2 r3 r4 rs q0 q1 q2 q3 q4 qs
        refine (rsame_eq HL0.out (HE32.out.ans (.tail _ (.head _))) (HE32.out.ans (.head _))).mono ?_
        rintro e w33 ⟨rfl, hb33⟩
        have HE33 : Hid _ := HE32.out.below hb33
        go_wp2
        go_ret
        exact ⟨rfl, HE33.out.bl⟩
      have o2 : letE M j = 0 := by unfold letE; rw [if_neg (by simpa using HC0.out), if_neg (by rw [HSl.out]; simp), if_neg hz]
      have HL0 : Hid (ML = putM M j) := HML.out.trans (by unfold letM; rw [o2, if_pos rfl])
      have e4 : eL = 0 := HeL.out.trans o2
      subst e4
      clear o2
      have hz' : (refsM M j == 0) = false := by simpa using hz
      go_wp2_with fail
      clear q0 q1 q2 q3 q4 qs s0
      refine (ownMem_any M _ aH aF aL cS cH cF cL w32 (HE32.out.ans (.tail _ (.tail _ (.tail _ (.tail _ (.tail _ (.head _))))))).at_).mono ?_
      rintro e w40 ⟨gS2, gH2, gF2, gL2, kS2, kH2, kF2, kL2, rfl, rw40, hb40⟩
      have bc40 : Below w7.heap.size w7 w40 := b32.trans (hb40.mono b32.size)
      have HBx40 : Hid (w40.heap[B8]? = _) := (hb40.block _ (lt_of_block HBx.out)).trans HBx.out
      have HM40 : Hid (Mine (set5 w40 B8 (.slice gS2 M.slots.length kS2) (.slice gH2 M.heads.length kH2) (.slice gF2 M.free.length kF2) (.slice gL2 M.locks.length kL2) (.int .i64 M.now)) B8 w32.heap.size gS2 gH2 gF2 gL2 kS2 kH2 kF2 kL2 M) := Mine.stored rw40 HBx40.out m1 m2 (by omega) m4
      have bs40 : Below w7.heap.size w7 (set5 w40 B8 (.slice gS2 M.slots.length kS2) (.slice gH2 M.heads.length kH2) (.slice gF2 M.free.length kF2) (.slice gL2 M.locks.length kL2) (.int .i64 M.now)) := bc40.trans (set5_below w40 B8 w7.heap.size _ _ _ _ _ HZ8.out)
      have HLz40 : Hid (w7.heap.size ≤ w32.heap.size) := b32.size
      obtain ⟨v0, v1, v2, v3, v4, f0, f1, f2, f3, f4, vs⟩ := boxf HBx40.out
      clear rw40 hb40 bc40
      go_wp2_with fail
      rw [show ((((w40.setCell ⟨B8, 0, none⟩ (.slice gS2 M.slots.length kS2)).setCell ⟨B8, 1, none⟩ (.slice gH2 M.heads.length kH2)).setCell ⟨B8, 2, none⟩ (.slice gF2 M.free.length kF2)).setCell ⟨B8, 3, none⟩ (.slice gL2 M.locks.length kL2)).setCell ⟨B8, 4, none⟩ (.int .i64 M.now) = set5 w40 B8 (.slice gS2 M.slots.length kS2) (.slice gH2 M.heads.length kH2) (.slice gF2 M.free.length kF2) (.slice gL2 M.locks.length kL2) (.int .i64 M.now) from rfl]
      clear v0 v1 v2 v3 v4 f0 f1 f2 f3 f4 vs HBx40
      generalize set5 w40 B8 (.slice gS2 M.slots.length kS2) (.slice gH2 M.heads.length kH2) (.slice gF2 M.free.length kF2) (.slice gL2 M.locks.length kL2) (.int .i64 M.now) = W40 at *
      refine (rput_at HL0.out W40 _ _ _ _ _ _ _ _ _ _ HM40.out (by omega) (by omega) (by omega) (by omega) (by omega)).mono ?_
      rintro e w41 ⟨rfl, uS', uH', uF', uL', lS', lH', lF', lL', m41, k41⟩
      have b41 : Below w7.heap.size w7 w41 := bs40.trans (k41.down (n := w7.heap.size) HLz40.out HZ8.out)
      have HM41 : Hid _ := m41
      have HE41 : Hid _ := HE7.out.below b41
      clear m41 k41 bs40 HM40
      obtain ⟨p0, p1, p2, p3, p4, -, -, -, -, -, ps⟩ := boxf (HE41.out.box _ (.tail _ (.head _)))
      obtain ⟨r0, r1, r2, r3, r4, -, -, -, -, -, rs⟩ := boxf HM41.out.box
      go_wp2_with fail
      clear p0 p1 p2 p3 p4 ps r0 r1 r2 r3 r4 rs
      refine (rsame_eq rfl (HE41.out.ans (.tail _ (.head _))) HM41.out.ans).mono ?_
      rintro e w42 ⟨rfl, hb42⟩
      have HE42 : Hid _ := HE41.out.below hb42
      go_wp2
      go_ret
      exact ⟨rfl, HE42.out.bl⟩
    have o1 : heldE M j = 0 := by unfold heldE; rw [if_neg (by simpa using HC0.out), if_neg (by rw [HSl.out]; simp), if_neg hr]
    have HH0 : Hid (MH = holdM M j) := HMH.out.trans (by unfold heldM; rw [o1, if_pos rfl])
    have e3 : eH = 0 := HeH.out.trans o1
    subst e3
    clear o1
    refine (rhold_at HH0.out W30 _ _ _ _ _ _ _ _ _ _ HM30.out (by omega) (by omega) (by omega) (by omega)).mono ?_
    rintro e w31 ⟨rfl, uS, uH, uF, uL, lS, lH, lF, lL, m31, k31⟩
    have b31 : Below w7.heap.size w7 w31 := bs30.trans (k31.down (n := w7.heap.size) HLz30.out HZ8.out)
    have HM31 : Hid _ := m31
    have HE31 : Hid _ := HE7.out.below b31
    clear m31 k31 bs30 HM30
    obtain ⟨p0, p1, p2, p3, p4, -, -, -, -, -, ps⟩ := boxf (HE31.out.box _ (.tail _ (.tail _ (.head _))))
    obtain ⟨r0, r1, r2, r3, r4, -, -, -, -, -, rs⟩ := boxf HM31.out.box
    go_wp2_with fail
    clear p0 p1 p2 p3 p4 ps r0 r1 r2 r3 r4 rs
    refine (rsame_eq rfl (HE31.out.ans (.tail _ (.tail _ (.head _)))) HM31.out.ans).mono ?_
    rintro e w32 ⟨rfl, hb32⟩
    have HBx32 : Hid (w32.heap[B8]? = _) := (hb32.block _ (lt_of_block HM31.out.box)).trans HM31.out.box
    have b32 : Below w7.heap.size w7 w32 := b31.trans (hb32.mono b31.size)
    clear hb32 HE31 b31 HM31 HBx HEc bc hr
    have HBx : Hid _ := HBx32.out
    have HE32 : Hid _ := HE7.out.below b32
    clear HBx32
    have hrr := refsM_at M j hj
    rcases (HE32.out.ans (.tail _ (.tail _ (.tail _ (.tail _ (.tail _ (.head _))))))).at_.s.at_ with h0 | ⟨bs, os, rfl, hcs⟩
    · omega
    obtain ⟨s0, -⟩ := hcs j hj
    rw [← hrr] at s0
    clear hcs hrr
    obtain ⟨q0, q1, q2, q3, q4, -, -, -, -, -, qs⟩ := boxf (HE32.out.box _ (.tail _ (.tail _ (.tail _ (.tail _ (.tail _ (.tail _ (.head _))))))))
    by_cases hz : refsM M j = 0
    · have o2 : letE M j = 8 := by unfold letE; rw [if_neg (by simpa using HC0.out), if_neg (by rw [HSl.out]; simp), if_pos hz]
      have HL0 : Hid (ML = m0) := HML.out.trans (by unfold letM; rw [o2, if_neg (by decide)])
      have e4 : eL = 8 := HeL.out.trans o2
      subst e4
      rw [hz] at s0
      clear o2
      obtain ⟨p0, p1, p2, p3, p4, -, -, -, -, -, ps⟩ := boxf (HE32.out.box _ (.tail _ (.head _)))
      obtain ⟨r0, r1, r2, r3, r4, -, -, -, -, -, rs⟩ := boxf (HE32.out.box _ (.head _))
      go_wp2_with fail
      clear p0 p1 p2 p3 p4 ps r0 r1 r2 r3 r4 rs q0 q1 q2 q3 q4 qs
      refine (rsame_eq HL0.out (HE32.out.ans (.tail _ (.head _))) (HE32.out.ans (.head _))).mono ?_
      rintro e w33 ⟨rfl, hb33⟩
      have HE33 : Hid _ := HE32.out.below hb33
      go_wp2
      go_ret
      exact ⟨rfl, HE33.out.bl⟩
    have o2 : letE M j = 0 := by unfold letE; rw [if_neg (by simpa using HC0.out), if_neg (by rw [HSl.out]; simp), if_neg hz]
    have HL0 : Hid (ML = putM M j) := HML.out.trans (by unfold letM; rw [o2, if_pos rfl])
    have e4 : eL = 0 := HeL.out.trans o2
    subst e4
    clear o2
    have hz' : (refsM M j == 0) = false := by simpa using hz
    go_wp2_with fail
    clear q0 q1 q2 q3 q4 qs s0
    refine (ownMem_any M _ aH aF aL cS cH cF cL w32 (HE32.out.ans (.tail _ (.tail _ (.tail _ (.tail _ (.tail _ (.head _))))))).at_).mono ?_
    rintro e w40 ⟨gS2, gH2, gF2, gL2, kS2, kH2, kF2, kL2, rfl, rw40, hb40⟩
    have bc40 : Below w7.heap.size w7 w40 := b32.trans (hb40.mono b32.size)
    have HBx40 : Hid (w40.heap[B8]? = _) := (hb40.block _ (lt_of_block HBx.out)).trans HBx.out
    have HM40 : Hid (Mine (set5 w40 B8 (.slice gS2 M.slots.length kS2) (.slice gH2 M.heads.length kH2) (.slice gF2 M.free.length kF2) (.slice gL2 M.locks.length kL2) (.int .i64 M.now)) B8 w32.heap.size gS2 gH2 gF2 gL2 kS2 kH2 kF2 kL2 M) := Mine.stored rw40 HBx40.out m1 m2 (by omega) m4
    have bs40 : Below w7.heap.size w7 (set5 w40 B8 (.slice gS2 M.slots.length kS2) (.slice gH2 M.heads.length kH2) (.slice gF2 M.free.length kF2) (.slice gL2 M.locks.length kL2) (.int .i64 M.now)) := bc40.trans (set5_below w40 B8 w7.heap.size _ _ _ _ _ HZ8.out)
    have HLz40 : Hid (w7.heap.size ≤ w32.heap.size) := b32.size
    obtain ⟨v0, v1, v2, v3, v4, f0, f1, f2, f3, f4, vs⟩ := boxf HBx40.out
    clear rw40 hb40 bc40
    go_wp2_with fail
    rw [show ((((w40.setCell ⟨B8, 0, none⟩ (.slice gS2 M.slots.length kS2)).setCell ⟨B8, 1, none⟩ (.slice gH2 M.heads.length kH2)).setCell ⟨B8, 2, none⟩ (.slice gF2 M.free.length kF2)).setCell ⟨B8, 3, none⟩ (.slice gL2 M.locks.length kL2)).setCell ⟨B8, 4, none⟩ (.int .i64 M.now) = set5 w40 B8 (.slice gS2 M.slots.length kS2) (.slice gH2 M.heads.length kH2) (.slice gF2 M.free.length kF2) (.slice gL2 M.locks.length kL2) (.int .i64 M.now) from rfl]
    clear v0 v1 v2 v3 v4 f0 f1 f2 f3 f4 vs HBx40
    generalize set5 w40 B8 (.slice gS2 M.slots.length kS2) (.slice gH2 M.heads.length kH2) (.slice gF2 M.free.length kF2) (.slice gL2 M.locks.length kL2) (.int .i64 M.now) = W40 at *
    refine (rput_at HL0.out W40 _ _ _ _ _ _ _ _ _ _ HM40.out (by omega) (by omega) (by omega) (by omega) (by omega)).mono ?_
    rintro e w41 ⟨rfl, uS', uH', uF', uL', lS', lH', lF', lL', m41, k41⟩
    have b41 : Below w7.heap.size w7 w41 := bs40.trans (k41.down (n := w7.heap.size) HLz40.out HZ8.out)
    have HM41 : Hid _ := m41
    have HE41 : Hid _ := HE7.out.below b41
    clear m41 k41 bs40 HM40
    obtain ⟨p0, p1, p2, p3, p4, -, -, -, -, -, ps⟩ := boxf (HE41.out.box _ (.tail _ (.head _)))
    obtain ⟨r0, r1, r2, r3, r4, -, -, -, -, -, rs⟩ := boxf HM41.out.box
    go_wp2_with fail
    clear p0 p1 p2 p3 p4 ps r0 r1 r2 r3 r4 rs
    refine (rsame_eq rfl (HE41.out.ans (.tail _ (.head _))) HM41.out.ans).mono ?_
    rintro e w42 ⟨rfl, hb42⟩
    have HE42 : Hid _ := HE41.out.below hb42
    go_wp2
    go_ret
    exact ⟨rfl, HE42.out.bl⟩

  have o1 : takenE M ka kb u = 0 := by unfold takenE; rw [if_neg (by simpa using HC0.out), if_neg (by rw [hK]; simp), if_neg (by rw [hU]; simp), if_neg hF]
  obtain ⟨i0, i1, -, -⟩ := last_in HOk.out (by omega)
  have HT1 : Hid (MT = takeM M ka kb u) := HMT.out.trans (by unfold takenM; rw [o1, if_pos rfl])
  have HN1 : Hid (nT = lastF M) := HnT.out.trans (by unfold takenN; rw [o1, if_pos rfl])
  have e1 : eT = 0 := HeT.out.trans o1
  subst e1
  clear o1
  go_wp2_with fail
  clear k0 k1 ks HE9k
  refine (rtake_at HT1.out HN1.out w9 _ _ _ _ _ _ _ _ _ _ HM9.out (by omega) i0 i1 (by omega)).mono ?_
  rintro e w10 ⟨rfl, uS, uH, uF, uL, lS, lH, lF, lL, m10, k10⟩
  have b10 : Below w7.heap.size w7 w10 := b9.trans (k10.down (n := w7.heap.size) (Nat.le_refl _) HZ8.out)
  have HM10 : Hid _ := m10
  have HE10 : Hid _ := HE7.out.below b10
  clear m10 k10 b9 HM9 i0 i1
  obtain ⟨p0, p1, p2, p3, p4, -, -, -, -, -, ps⟩ := boxf (HE10.out.box _ (.tail _ (.tail _ (.tail _ (.head _)))))
  obtain ⟨r0, r1, r2, r3, r4, -, -, -, -, -, rs⟩ := boxf HM10.out.box
  go_wp2_with fail
  clear p0 p1 p2 p3 p4 ps r0 r1 r2 r3 r4 rs
  refine (rsame_eq rfl (HE10.out.ans (.tail _ (.tail _ (.tail _ (.head _))))) HM10.out.ans).mono ?_
  rintro e wc ⟨rfl, hbc⟩
  have bc : Below w7.heap.size w7 wc := b10.trans (hbc.mono b10.size)
  have HBx : Hid (wc.heap[B8]? = _) := (hbc.block _ (lt_of_block HM10.out.box)).trans HM10.out.box
  clear hbc HE10 b10 HM10
  have HEc : Hid _ := HE7.out.below bc
  obtain ⟨q0, q1, q2, q3, q4, -, -, -, -, -, qs⟩ := boxf (HEc.out.box _ (.tail _ (.tail _ (.tail _ (.tail _ (.tail _ (.tail _ (.head _))))))))
  rcases Int.lt_or_le i 0 with hi0 | hi0
  · have o1 : heldE M i = 5 := by unfold heldE; rw [if_neg (by simpa using HC0.out), if_pos (by simp [isSl, inB]; omega)]
    have o2 : letE M i = 5 := by unfold letE; rw [if_neg (by simpa using HC0.out), if_pos (by simp [isSl, inB]; omega)]
    have HH0 : Hid (MH = m0) := HMH.out.trans (by unfold heldM; rw [o1, if_neg (by decide)])
    have HL0 : Hid (ML = m0) := HML.out.trans (by unfold letM; rw [o2, if_neg (by decide)])
    have e3 : eH = 5 := HeH.out.trans o1
    have e4 : eL = 5 := HeL.out.trans o2
    subst e3 e4
    clear o1 o2
    obtain ⟨p0, p1, p2, p3, p4, -, -, -, -, -, ps⟩ := boxf (HEc.out.box _ (.tail _ (.tail _ (.head _))))
    obtain ⟨r0, r1, r2, r3, r4, -, -, -, -, -, rs⟩ := boxf (HEc.out.box _ (.head _))
    go_wp2_with fail
    clear p0 p1 p2 p3 p4 ps r0 r1 r2 r3 r4 rs q0 q1 q2 q3 q4 qs
    refine (rsame_eq HH0.out (HEc.out.ans (.tail _ (.tail _ (.head _)))) (HEc.out.ans (.head _))).mono ?_
    rintro e w20 ⟨rfl, hb20⟩
    have HE20 : Hid _ := HEc.out.below hb20
    obtain ⟨p0, p1, p2, p3, p4, -, -, -, -, -, ps⟩ := boxf (HE20.out.box _ (.tail _ (.head _)))
    obtain ⟨r0, r1, r2, r3, r4, -, -, -, -, -, rs⟩ := boxf (HE20.out.box _ (.head _))
    go_wp2_with fail
    clear p0 p1 p2 p3 p4 ps r0 r1 r2 r3 r4 rs
    refine (rsame_eq HL0.out (HE20.out.ans (.tail _ (.head _))) (HE20.out.ans (.head _))).mono ?_
    rintro e w21 ⟨rfl, hb21⟩
    have HE21 : Hid _ := HE20.out.below hb21
    go_wp2
    go_ret
    exact ⟨rfl, HE21.out.bl⟩
  rcases Int.lt_or_le i M.slots.length with hi1 | hi1
  rotate_left
  · have o1 : heldE M i = 5 := by unfold heldE; rw [if_neg (by simpa using HC0.out), if_pos (by simp [isSl, inB]; omega)]
    have o2 : letE M i = 5 := by unfold letE; rw [if_neg (by simpa using HC0.out), if_pos (by simp [isSl, inB]; omega)]
    have HH0 : Hid (MH = m0) := HMH.out.trans (by unfold heldM; rw [o1, if_neg (by decide)])
    have HL0 : Hid (ML = m0) := HML.out.trans (by unfold letM; rw [o2, if_neg (by decide)])
    have e3 : eH = 5 := HeH.out.trans o1
    have e4 : eL = 5 := HeL.out.trans o2
    subst e3 e4
    clear o1 o2
    obtain ⟨p0, p1, p2, p3, p4, -, -, -, -, -, ps⟩ := boxf (HEc.out.box _ (.tail _ (.tail _ (.head _))))
    obtain ⟨r0, r1, r2, r3, r4, -, -, -, -, -, rs⟩ := boxf (HEc.out.box _ (.head _))
    go_wp2_with fail
    clear p0 p1 p2 p3 p4 ps r0 r1 r2 r3 r4 rs q0 q1 q2 q3 q4 qs
    refine (rsame_eq HH0.out (HEc.out.ans (.tail _ (.tail _ (.head _)))) (HEc.out.ans (.head _))).mono ?_
    rintro e w20 ⟨rfl, hb20⟩
    have HE20 : Hid _ := HEc.out.below hb20
    obtain ⟨p0, p1, p2, p3, p4, -, -, -, -, -, ps⟩ := boxf (HE20.out.box _ (.tail _ (.head _)))
    obtain ⟨r0, r1, r2, r3, r4, -, -, -, -, -, rs⟩ := boxf (HE20.out.box _ (.head _))
    go_wp2_with fail
    clear p0 p1 p2 p3 p4 ps r0 r1 r2 r3 r4 rs
    refine (rsame_eq HL0.out (HE20.out.ans (.tail _ (.head _))) (HE20.out.ans (.head _))).mono ?_
    rintro e w21 ⟨rfl, hb21⟩
    have HE21 : Hid _ := HE20.out.below hb21
    go_wp2
    go_ret
    exact ⟨rfl, HE21.out.bl⟩
  obtain ⟨j, rfl⟩ : ∃ j : Nat, i = j := ⟨i.toNat, by omega⟩
  have hj : j < M.slots.length := by omega
  have hsl : isSl M j = true := (inB_iff _ _ _).2 ⟨by omega, by omega⟩
  obtain ⟨-, -, hr0, hr1⟩ := refs_in HC0.out hsl
  have HSl : Hid (isSl M j = true) := hsl
  clear hsl
  go_wp2_with fail
  clear q0 q1 q2 q3 q4 qs
  refine (ownMem_any M aS aH aF aL cS cH cF cL wc (HEc.out.ans (.tail _ (.tail _ (.tail _ (.tail _ (.tail _ (.head _))))))).at_).mono ?_
  rintro e w30 ⟨gS2, gH2, gF2, gL2, kS2, kH2, kF2, kL2, rfl, rw30, hb30⟩
  have bc30 : Below w7.heap.size w7 w30 := bc.trans (hb30.mono bc.size)
  have HBx30 : Hid (w30.heap[B8]? = _) := (hb30.block _ (lt_of_block HBx.out)).trans HBx.out
  have HM30 : Hid (Mine (set5 w30 B8 (.slice gS2 M.slots.length kS2) (.slice gH2 M.heads.length kH2) (.slice gF2 M.free.length kF2) (.slice gL2 M.locks.length kL2) (.int .i64 M.now)) B8 wc.heap.size gS2 gH2 gF2 gL2 kS2 kH2 kF2 kL2 M) := Mine.stored rw30 HBx30.out m1 m2 (by omega) m4
  have bs30 : Below w7.heap.size w7 (set5 w30 B8 (.slice gS2 M.slots.length kS2) (.slice gH2 M.heads.length kH2) (.slice gF2 M.free.length kF2) (.slice gL2 M.locks.length kL2) (.int .i64 M.now)) := bc30.trans (set5_below w30 B8 w7.heap.size _ _ _ _ _ HZ8.out)
  have HLz30 : Hid (w7.heap.size ≤ wc.heap.size) := bc.size
  obtain ⟨v0, v1, v2, v3, v4, f0, f1, f2, f3, f4, vs⟩ := boxf HBx30.out
  clear rw30 hb30 bc30
  go_wp2_with fail
  rw [show ((((w30.setCell ⟨B8, 0, none⟩ (.slice gS2 M.slots.length kS2)).setCell ⟨B8, 1, none⟩ (.slice gH2 M.heads.length kH2)).setCell ⟨B8, 2, none⟩ (.slice gF2 M.free.length kF2)).setCell ⟨B8, 3, none⟩ (.slice gL2 M.locks.length kL2)).setCell ⟨B8, 4, none⟩ (.int .i64 M.now) = set5 w30 B8 (.slice gS2 M.slots.length kS2) (.slice gH2 M.heads.length kH2) (.slice gF2 M.free.length kF2) (.slice gL2 M.locks.length kL2) (.int .i64 M.now) from rfl]
  clear v0 v1 v2 v3 v4 f0 f1 f2 f3 f4 vs HBx30
  generalize set5 w30 B8 (.slice gS2 M.slots.length kS2) (.slice gH2 M.heads.length kH2) (.slice gF2 M.free.length kF2) (.slice gL2 M.locks.length kL2) (.int .i64 M.now) = W30 at *
  by_cases hr : refsM M j = 0 ∨ refsM M j = 1000
  · have o1 : heldE M j = 8 := by unfold heldE; rw [if_neg (by simpa using HC0.out), if_neg (by rw [HSl.out]; simp), if_pos hr]
    have HH0 : Hid (MH = m0) := HMH.out.trans (by unfold heldM; rw [o1, if_neg (by decide)])
    have e3 : eH = 8 := HeH.out.trans o1
    subst e3
    clear o1
    refine (rhold_fail M W30 _ _ _ _ _ _ _ _ _ _ j HM30.out (by omega) (by omega) (by omega)).mono ?_
    rintro e w31 ⟨rfl, rfl⟩
    have HE31 : Hid _ := HE7.out.below bs30
    obtain ⟨p0, p1, p2, p3, p4, -, -, -, -, -, ps⟩ := boxf (HE31.out.box _ (.tail _ (.tail _ (.head _))))
    obtain ⟨r0, r1, r2, r3, r4, -, -, -, -, -, rs⟩ := boxf (HE31.out.box _ (.head _))
    go_wp2_with fail
    clear p0 p1 p2 p3 p4 ps r0 r1 r2 r3 r4 rs
    refine (rsame_eq HH0.out (HE31.out.ans (.tail _ (.tail _ (.head _)))) (HE31.out.ans (.head _))).mono ?_
    rintro e w32 ⟨rfl, hb32⟩
    have HBx32 : Hid (w32.heap[B8]? = _) := (hb32.block _ (lt_of_block HM30.out.box)).trans HM30.out.box
    have b32 : Below w7.heap.size w7 w32 := bs30.trans (hb32.mono bs30.size)
    clear hb32 HE31 bs30 HM30 HBx HEc bc hr
    have HBx : Hid _ := HBx32.out
    have HE32 : Hid _ := HE7.out.below b32
    clear HBx32
    have hrr := refsM_at M j hj
    rcases (HE32.out.ans (.tail _ (.tail _ (.tail _ (.tail _ (.tail _ (.head _))))))).at_.s.at_ with h0 | ⟨bs, os, rfl, hcs⟩
    · omega
    obtain ⟨s0, -⟩ := hcs j hj
    rw [← hrr] at s0
    clear hcs hrr
    obtain ⟨q0, q1, q2, q3, q4, -, -, -, -, -, qs⟩ := boxf (HE32.out.box _ (.tail _ (.tail _ (.tail _ (.tail _ (.tail _ (.tail _ (.head _))))))))
    by_cases hz : refsM M j = 0
    · have o2 : letE M j = 8 := by unfold letE; rw [if_neg (by simpa using HC0.out), if_neg (by rw [HSl.out]; simp), if_pos hz]
      have HL0 : Hid (ML = m0) := HML.out.trans (by unfold letM; rw [o2, if_neg (by decide)])
      have e4 : eL = 8 := HeL.out.trans o2
      subst e4
      rw [hz] at s0
      clear o2
      obtain ⟨p0, p1, p2, p3, p4, -, -, -, -, -, ps⟩ := boxf (HE32.out.box _ (.tail _ (.head _)))
      obtain ⟨r0, r1, r2, r3, r4, -, -, -, -, -, rs⟩ := boxf (HE32.out.box _ (.head _))
      go_wp2_with fail
      clear p0 p1 p2 p3 p4 ps r0 r1 r2 r3 r4 rs q0 q1 q2 q3 q4 qs
      refine (rsame_eq HL0.out (HE32.out.ans (.tail _ (.head _))) (HE32.out.ans (.head _))).mono ?_
      rintro e w33 ⟨rfl, hb33⟩
      have HE33 : Hid _ := HE32.out.below hb33
      go_wp2
      go_ret
      exact ⟨rfl, HE33.out.bl⟩
    have o2 : letE M j = 0 := by unfold letE; rw [if_neg (by simpa using HC0.out), if_neg (by rw [HSl.out]; simp), if_neg hz]
    have HL0 : Hid (ML = putM M j) := HML.out.trans (by unfold letM; rw [o2, if_pos rfl])
    have e4 : eL = 0 := HeL.out.trans o2
    subst e4
    clear o2
    have hz' : (refsM M j == 0) = false := by simpa using hz
    go_wp2_with fail
    clear q0 q1 q2 q3 q4 qs s0
    refine (ownMem_any M _ aH aF aL cS cH cF cL w32 (HE32.out.ans (.tail _ (.tail _ (.tail _ (.tail _ (.tail _ (.head _))))))).at_).mono ?_
    rintro e w40 ⟨gS2, gH2, gF2, gL2, kS2, kH2, kF2, kL2, rfl, rw40, hb40⟩
    have bc40 : Below w7.heap.size w7 w40 := b32.trans (hb40.mono b32.size)
    have HBx40 : Hid (w40.heap[B8]? = _) := (hb40.block _ (lt_of_block HBx.out)).trans HBx.out
    have HM40 : Hid (Mine (set5 w40 B8 (.slice gS2 M.slots.length kS2) (.slice gH2 M.heads.length kH2) (.slice gF2 M.free.length kF2) (.slice gL2 M.locks.length kL2) (.int .i64 M.now)) B8 w32.heap.size gS2 gH2 gF2 gL2 kS2 kH2 kF2 kL2 M) := Mine.stored rw40 HBx40.out m1 m2 (by omega) m4
    have bs40 : Below w7.heap.size w7 (set5 w40 B8 (.slice gS2 M.slots.length kS2) (.slice gH2 M.heads.length kH2) (.slice gF2 M.free.length kF2) (.slice gL2 M.locks.length kL2) (.int .i64 M.now)) := bc40.trans (set5_below w40 B8 w7.heap.size _ _ _ _ _ HZ8.out)
    have HLz40 : Hid (w7.heap.size ≤ w32.heap.size) := b32.size
    obtain ⟨v0, v1, v2, v3, v4, f0, f1, f2, f3, f4, vs⟩ := boxf HBx40.out
    clear rw40 hb40 bc40
    go_wp2_with fail
    rw [show ((((w40.setCell ⟨B8, 0, none⟩ (.slice gS2 M.slots.length kS2)).setCell ⟨B8, 1, none⟩ (.slice gH2 M.heads.length kH2)).setCell ⟨B8, 2, none⟩ (.slice gF2 M.free.length kF2)).setCell ⟨B8, 3, none⟩ (.slice gL2 M.locks.length kL2)).setCell ⟨B8, 4, none⟩ (.int .i64 M.now) = set5 w40 B8 (.slice gS2 M.slots.length kS2) (.slice gH2 M.heads.length kH2) (.slice gF2 M.free.length kF2) (.slice gL2 M.locks.length kL2) (.int .i64 M.now) from rfl]
    clear v0 v1 v2 v3 v4 f0 f1 f2 f3 f4 vs HBx40
    generalize set5 w40 B8 (.slice gS2 M.slots.length kS2) (.slice gH2 M.heads.length kH2) (.slice gF2 M.free.length kF2) (.slice gL2 M.locks.length kL2) (.int .i64 M.now) = W40 at *
    refine (rput_at HL0.out W40 _ _ _ _ _ _ _ _ _ _ HM40.out (by omega) (by omega) (by omega) (by omega) (by omega)).mono ?_
    rintro e w41 ⟨rfl, uS', uH', uF', uL', lS', lH', lF', lL', m41, k41⟩
    have b41 : Below w7.heap.size w7 w41 := bs40.trans (k41.down (n := w7.heap.size) HLz40.out HZ8.out)
    have HM41 : Hid _ := m41
    have HE41 : Hid _ := HE7.out.below b41
    clear m41 k41 bs40 HM40
    obtain ⟨p0, p1, p2, p3, p4, -, -, -, -, -, ps⟩ := boxf (HE41.out.box _ (.tail _ (.head _)))
    obtain ⟨r0, r1, r2, r3, r4, -, -, -, -, -, rs⟩ := boxf HM41.out.box
    go_wp2_with fail
    clear p0 p1 p2 p3 p4 ps r0 r1 r2 r3 r4 rs
    refine (rsame_eq rfl (HE41.out.ans (.tail _ (.head _))) HM41.out.ans).mono ?_
    rintro e w42 ⟨rfl, hb42⟩
    have HE42 : Hid _ := HE41.out.below hb42
    go_wp2
    go_ret
    exact ⟨rfl, HE42.out.bl⟩
  have o1 : heldE M j = 0 := by unfold heldE; rw [if_neg (by simpa using HC0.out), if_neg (by rw [HSl.out]; simp), if_neg hr]
  have HH0 : Hid (MH = holdM M j) := HMH.out.trans (by unfold heldM; rw [o1, if_pos rfl])
  have e3 : eH = 0 := HeH.out.trans o1
  subst e3
  clear o1
  refine (rhold_at HH0.out W30 _ _ _ _ _ _ _ _ _ _ HM30.out (by omega) (by omega) (by omega) (by omega)).mono ?_
  rintro e w31 ⟨rfl, uS, uH, uF, uL, lS, lH, lF, lL, m31, k31⟩
  have b31 : Below w7.heap.size w7 w31 := bs30.trans (k31.down (n := w7.heap.size) HLz30.out HZ8.out)
  have HM31 : Hid _ := m31
  have HE31 : Hid _ := HE7.out.below b31
  clear m31 k31 bs30 HM30
  obtain ⟨p0, p1, p2, p3, p4, -, -, -, -, -, ps⟩ := boxf (HE31.out.box _ (.tail _ (.tail _ (.head _))))
  obtain ⟨r0, r1, r2, r3, r4, -, -, -, -, -, rs⟩ := boxf HM31.out.box
  go_wp2_with fail
  clear p0 p1 p2 p3 p4 ps r0 r1 r2 r3 r4 rs
  refine (rsame_eq rfl (HE31.out.ans (.tail _ (.tail _ (.head _)))) HM31.out.ans).mono ?_
  rintro e w32 ⟨rfl, hb32⟩
  have HBx32 : Hid (w32.heap[B8]? = _) := (hb32.block _ (lt_of_block HM31.out.box)).trans HM31.out.box
  have b32 : Below w7.heap.size w7 w32 := b31.trans (hb32.mono b31.size)
  clear hb32 HE31 b31 HM31 HBx HEc bc hr
  have HBx : Hid _ := HBx32.out
  have HE32 : Hid _ := HE7.out.below b32
  clear HBx32
  have hrr := refsM_at M j hj
  rcases (HE32.out.ans (.tail _ (.tail _ (.tail _ (.tail _ (.tail _ (.head _))))))).at_.s.at_ with h0 | ⟨bs, os, rfl, hcs⟩
  · omega
  obtain ⟨s0, -⟩ := hcs j hj
  rw [← hrr] at s0
  clear hcs hrr
  obtain ⟨q0, q1, q2, q3, q4, -, -, -, -, -, qs⟩ := boxf (HE32.out.box _ (.tail _ (.tail _ (.tail _ (.tail _ (.tail _ (.tail _ (.head _))))))))
  by_cases hz : refsM M j = 0
  · have o2 : letE M j = 8 := by unfold letE; rw [if_neg (by simpa using HC0.out), if_neg (by rw [HSl.out]; simp), if_pos hz]
    have HL0 : Hid (ML = m0) := HML.out.trans (by unfold letM; rw [o2, if_neg (by decide)])
    have e4 : eL = 8 := HeL.out.trans o2
    subst e4
    rw [hz] at s0
    clear o2
    obtain ⟨p0, p1, p2, p3, p4, -, -, -, -, -, ps⟩ := boxf (HE32.out.box _ (.tail _ (.head _)))
    obtain ⟨r0, r1, r2, r3, r4, -, -, -, -, -, rs⟩ := boxf (HE32.out.box _ (.head _))
    go_wp2_with fail
    clear p0 p1 p2 p3 p4 ps r0 r1 r2 r3 r4 rs q0 q1 q2 q3 q4 qs
    refine (rsame_eq HL0.out (HE32.out.ans (.tail _ (.head _))) (HE32.out.ans (.head _))).mono ?_
    rintro e w33 ⟨rfl, hb33⟩
    have HE33 : Hid _ := HE32.out.below hb33
    go_wp2
    go_ret
    exact ⟨rfl, HE33.out.bl⟩
  have o2 : letE M j = 0 := by unfold letE; rw [if_neg (by simpa using HC0.out), if_neg (by rw [HSl.out]; simp), if_neg hz]
  have HL0 : Hid (ML = putM M j) := HML.out.trans (by unfold letM; rw [o2, if_pos rfl])
  have e4 : eL = 0 := HeL.out.trans o2
  subst e4
  clear o2
  have hz' : (refsM M j == 0) = false := by simpa using hz
  go_wp2_with fail
  clear q0 q1 q2 q3 q4 qs s0
  refine (ownMem_any M _ aH aF aL cS cH cF cL w32 (HE32.out.ans (.tail _ (.tail _ (.tail _ (.tail _ (.tail _ (.head _))))))).at_).mono ?_
  rintro e w40 ⟨gS2, gH2, gF2, gL2, kS2, kH2, kF2, kL2, rfl, rw40, hb40⟩
  have bc40 : Below w7.heap.size w7 w40 := b32.trans (hb40.mono b32.size)
  have HBx40 : Hid (w40.heap[B8]? = _) := (hb40.block _ (lt_of_block HBx.out)).trans HBx.out
  have HM40 : Hid (Mine (set5 w40 B8 (.slice gS2 M.slots.length kS2) (.slice gH2 M.heads.length kH2) (.slice gF2 M.free.length kF2) (.slice gL2 M.locks.length kL2) (.int .i64 M.now)) B8 w32.heap.size gS2 gH2 gF2 gL2 kS2 kH2 kF2 kL2 M) := Mine.stored rw40 HBx40.out m1 m2 (by omega) m4
  have bs40 : Below w7.heap.size w7 (set5 w40 B8 (.slice gS2 M.slots.length kS2) (.slice gH2 M.heads.length kH2) (.slice gF2 M.free.length kF2) (.slice gL2 M.locks.length kL2) (.int .i64 M.now)) := bc40.trans (set5_below w40 B8 w7.heap.size _ _ _ _ _ HZ8.out)
  have HLz40 : Hid (w7.heap.size ≤ w32.heap.size) := b32.size
  obtain ⟨v0, v1, v2, v3, v4, f0, f1, f2, f3, f4, vs⟩ := boxf HBx40.out
  clear rw40 hb40 bc40
  go_wp2_with fail
  rw [show ((((w40.setCell ⟨B8, 0, none⟩ (.slice gS2 M.slots.length kS2)).setCell ⟨B8, 1, none⟩ (.slice gH2 M.heads.length kH2)).setCell ⟨B8, 2, none⟩ (.slice gF2 M.free.length kF2)).setCell ⟨B8, 3, none⟩ (.slice gL2 M.locks.length kL2)).setCell ⟨B8, 4, none⟩ (.int .i64 M.now) = set5 w40 B8 (.slice gS2 M.slots.length kS2) (.slice gH2 M.heads.length kH2) (.slice gF2 M.free.length kF2) (.slice gL2 M.locks.length kL2) (.int .i64 M.now) from rfl]
  clear v0 v1 v2 v3 v4 f0 f1 f2 f3 f4 vs HBx40
  generalize set5 w40 B8 (.slice gS2 M.slots.length kS2) (.slice gH2 M.heads.length kH2) (.slice gF2 M.free.length kF2) (.slice gL2 M.locks.length kL2) (.int .i64 M.now) = W40 at *
  refine (rput_at HL0.out W40 _ _ _ _ _ _ _ _ _ _ HM40.out (by omega) (by omega) (by omega) (by omega) (by omega)).mono ?_
  rintro e w41 ⟨rfl, uS', uH', uF', uL', lS', lH', lF', lL', m41, k41⟩
  have b41 : Below w7.heap.size w7 w41 := bs40.trans (k41.down (n := w7.heap.size) HLz40.out HZ8.out)
  have HM41 : Hid _ := m41
  have HE41 : Hid _ := HE7.out.below b41
  clear m41 k41 bs40 HM40
  obtain ⟨p0, p1, p2, p3, p4, -, -, -, -, -, ps⟩ := boxf (HE41.out.box _ (.tail _ (.head _)))
  obtain ⟨r0, r1, r2, r3, r4, -, -, -, -, -, rs⟩ := boxf HM41.out.box
  go_wp2_with fail
  clear p0 p1 p2 p3 p4 ps r0 r1 r2 r3 r4 rs
  refine (rsame_eq rfl (HE41.out.ans (.tail _ (.head _))) HM41.out.ans).mono ?_
  rintro e w42 ⟨rfl, hb42⟩
  have HE42 : Hid _ := HE41.out.below hb42
  go_wp2
  go_ret
  exact ⟨rfl, HE42.out.bl⟩



end Go.Proofs.Ytdbilofhcadmoaa.mm
